package pattern

import (
	"reflect"
	"strings"
	"testing"

	"spotter/api"
)

func read(t *testing.T, text string) Pattern {
	t.Helper()
	p, ok, at := Read(text)
	if !ok || at != 0 {
		t.Fatalf("Read(%q): %v, %d", text, ok, at)
	}
	return p
}

// show writes a tree with every pair of parentheses, steps by their numbers.
func show(p Pattern, i int) string {
	n := p.Nodes[i]
	switch n.Op {
	case One:
		return string(rune('0' + n.Step))
	case Then:
		return "(" + show(p, n.Left) + show(p, n.Right) + ")"
	case Either:
		return "(" + show(p, n.Left) + "|" + show(p, n.Right) + ")"
	case Rounds:
		high := "*"
		if n.High != Endless {
			high = string(rune('0' + n.High))
		}
		return show(p, n.Left) + "{" + string(rune('0'+n.Low)) + high + "}"
	}
	return "!"
}

func TestTree(t *testing.T) {
	for text, want := range map[string]string{
		"a":              "0",
		"((a))":          "0",
		"abc":            "((01)2)",
		"ab|cd":          "((01)|(23))",
		"a|b|c":          "((0|1)|2)",
		"a(b|c)d":        "((0(1|2))3)",
		"a*b+c?d{29}":    "(((0{0*}1{1*})2{01})3{29})",
		"(a(b)*)+":       "(01{0*}){1*}",
		" a { 0 2 } | b": "(0{02}|1)",
	} {
		p := read(t, text)
		if got := show(p, len(p.Nodes)-1); got != want {
			t.Errorf("%q is %s, want %s", text, got, want)
		}
	}
}

func TestPartsStandAheadOfTheirNode(t *testing.T) {
	p := read(t, "((a|b)*c){13}(d|a(b|c))+|.?@5")
	for i, n := range p.Nodes {
		if n.Op != One && n.Left >= i || (n.Op == Then || n.Op == Either) && n.Right >= i {
			t.Errorf("node %d has parts behind it: %+v", i, n)
		}
	}
}

func TestSteps(t *testing.T) {
	number := func(n int) api.Term { return api.Term{Of: api.OfNumber, Num: n} }
	own := func(field int) api.Term { return api.Term{Of: api.OfEvent, Field: field} }
	held := func(name byte, field int) api.Term {
		return api.Term{Of: api.OfHeld + int(name-'A'), Field: field}
	}
	p := read(t, " aA [x<5&t#Zy - 0 1 ] | (d.B[3=Ax*t&y>z+2])")
	want := []Step{
		{At: 1, Kind: 0, Name: 0, Tests: []api.Test{
			{Left: own(api.FieldX), Rel: api.Below, Right: number(5)},
			{Left: own(api.FieldT), Rel: api.Other, Right: held('Z', api.FieldY), Arith: api.Minus, More: number(1)},
		}},
		{At: 25, Kind: 3, Name: NoName},
		{At: 26, Kind: api.AnyKind, Name: 1, Tests: []api.Test{
			{Left: number(3), Rel: api.Same, Right: held('A', api.FieldX), Arith: api.Times, More: own(api.FieldT)},
			{Left: own(api.FieldY), Rel: api.Above, Right: own(api.FieldZ), Arith: api.Plus, More: number(2)},
		}},
	}
	if !reflect.DeepEqual(p.Steps, want) {
		t.Errorf("got  %+v\nwant %+v", p.Steps, want)
	}
}

func TestWindow(t *testing.T) {
	if p := read(t, "a"); p.HasWindow || p.Window != 0 {
		t.Errorf("no window: %v %d", p.HasWindow, p.Window)
	}
	for text, want := range map[string]int{
		"a@0": 0, "a @ 1 2 ": 12, "a@007": 7,
		"a@999999999999999999": 999999999999999999, "a@000000000000000001": 1,
	} {
		if p := read(t, text); !p.HasWindow || p.Window != want {
			t.Errorf("%q: %v %d", text, p.HasWindow, p.Window)
		}
	}
}

func TestNoPattern(t *testing.T) {
	for text, want := range map[string]int{"": 0, "a|": 2, "a[x<1": 5, "(a": 2, "a@": 2, "ab)": 2, "a@1234567890123456789": 20} {
		p, ok, at := Read(text)
		if ok || at != want || !reflect.DeepEqual(p, Pattern{}) {
			t.Errorf("Read(%q) = %v, %v, %d, want no pattern at %d", text, p, ok, at, want)
		}
	}
}

func TestAnyNumberOfBytes(t *testing.T) {
	const many = 100000
	if p := read(t, strings.Repeat("a", many)); len(p.Steps) != many {
		t.Errorf("%d steps", len(p.Steps))
	}
	if _, ok, at := Read(strings.Repeat("(", many)); ok || at != api.MaxDepth {
		t.Errorf("%d: %v, %d", many, ok, at)
	}
}
