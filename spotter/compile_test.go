package spotter

import (
	"slices"
	"testing"

	"spotter/api"
)

func TestCompileExamples(t *testing.T) {
	wantPrograms(t, "1", map[string]string{"a": "Jump 1, Take 0, Jump 3, End"})
	wantPrograms(t, "00", map[string]string{
		"a*b": "Split 2 1, Jump 5, Take 0, Split 2 4, Jump 5, Take 1, Jump 7, End",
	})
	wantPrograms(t, "11", map[string]string{
		"aA[x<5] b[x>Ax+1] @9": "Jump 1, Take 0, Span 9, Only x < 5, Hold 0, Jump 6, Take 1, Span 9, Only x > 0x + 1, Jump 10, End",
	})
}

// P6: the first places, the last ones, and those that follow.
func TestCompilePlaces(t *testing.T) {
	wantPrograms(t, "0000", map[string]string{
		".":      "Jump 1, Take 4, Jump 3, End",
		"d":      "Jump 1, Take 3, Jump 3, End",
		"((a))":  "Jump 1, Take 0, Jump 3, End",
		"ab":     "Jump 1, Take 0, Jump 3, Take 1, Jump 5, End",
		"a|b":    "Split 2 1, Jump 4, Take 0, Jump 6, Take 1, Jump 6, End",
		"a|b|c":  "Split 3 1, Split 5 2, Jump 7, Take 0, Jump 9, Take 1, Jump 9, Take 2, Jump 9, End",
		"a?":     "Jump 1, Take 0, Jump 3, End",
		"a*":     "Jump 1, Take 0, Split 1 3, Jump 4, End",
		"a+":     "Jump 1, Take 0, Split 1 3, Jump 4, End",
		"a?b":    "Split 2 1, Jump 4, Take 0, Jump 4, Take 1, Jump 6, End",
		"ab?":    "Jump 1, Take 0, Split 4 3, Jump 6, Take 1, Jump 6, End",
		"a+b":    "Jump 1, Take 0, Split 1 3, Jump 4, Take 1, Jump 6, End",
		"(ab)*":  "Jump 1, Take 0, Jump 3, Take 1, Split 1 5, Jump 6, End",
		"(ab)+":  "Jump 1, Take 0, Jump 3, Take 1, Split 1 5, Jump 6, End",
		"(a|b)c": "Split 2 1, Jump 4, Take 0, Jump 6, Take 1, Jump 6, Take 2, Jump 8, End",
		"a(b|c)": "Jump 1, Take 0, Split 4 3, Jump 6, Take 1, Jump 8, Take 2, Jump 8, End",
		// The order of the blocks is that of the places, not that of the ways.
		"(a|b)*": "Split 2 1, Jump 6, Take 0, Split 2 4, Split 6 5, Jump 10, Take 1, Split 2 8, Split 6 9, Jump 10, End",
	})
}

// P6: parts that may take nothing, within rounds.
func TestCompileNothingWithinRounds(t *testing.T) {
	once := "Jump 1, Take 0, Split 1 3, Jump 4, End"
	wantPrograms(t, "000", map[string]string{
		"(a*)*": once, "(a*)+": once, "(a+)*": once, "(a?)*": once, "(a?)+": once, "(a*)?": once, "((a?)+)?": once,
		"(a?)?":   "Jump 1, Take 0, Jump 3, End",
		"(a?b?)*": "Split 2 1, Jump 6, Take 0, Split 2 4, Split 6 5, Jump 10, Take 1, Split 2 8, Split 6 9, Jump 10, End",
		"(a?b)+":  "Split 2 1, Jump 4, Take 0, Jump 4, Take 1, Split 2 6, Split 4 7, Jump 8, End",
		"(a*|b)c": "Split 3 1, Split 6 2, Jump 8, Take 0, Split 3 5, Jump 8, Take 1, Jump 8, Take 2, Jump 10, End",
		"(a*|b)+": "Split 2 1, Jump 6, Take 0, Split 2 4, Split 6 5, Jump 10, Take 1, Split 2 8, Split 6 9, Jump 10, End",
		"a(b?c*)": "Jump 1, Take 0, Split 5 3, Split 8 4, Jump 11, Take 1, Split 8 7, Jump 11, Take 2, Split 8 10, Jump 11, End",
	})
}

// P5, P6: rounds that are counted are written out.
func TestCompileCounted(t *testing.T) {
	wantPrograms(t, "000", map[string]string{
		"a{01}": "Jump 1, Take 0, Jump 3, End",
		"a{11}": "Jump 1, Take 0, Jump 3, End",
		"a{22}": "Jump 1, Take 0, Jump 3, Take 0, Jump 5, End",
		"a{02}": "Jump 1, Take 0, Split 4 3, Jump 6, Take 0, Jump 6, End",
		"a{13}": "Jump 1, Take 0, Split 4 3, Jump 9, Take 0, Split 7 6, Jump 9, Take 0, Jump 9, End",
		// Each inside the one ahead: b follows every a, the second a is not first.
		"a{02}b":      "Split 2 1, Jump 7, Take 0, Split 5 4, Jump 7, Take 0, Jump 7, Take 1, Jump 9, End",
		"a{23}b":      "Jump 1, Take 0, Jump 3, Take 0, Split 6 5, Jump 8, Take 0, Jump 8, Take 1, Jump 10, End",
		"(a?){12}":    "Split 2 1, Jump 5, Take 0, Split 5 4, Jump 7, Take 0, Jump 7, End",
		"(a?){22}b":   "Split 3 1, Split 6 2, Jump 8, Take 0, Split 6 5, Jump 8, Take 0, Jump 8, Take 1, Jump 10, End",
		"(a*){02}":    "Split 2 1, Jump 6, Take 0, Split 2 4, Split 6 5, Jump 9, Take 0, Split 6 8, Jump 9, End",
		"(ab){12}":    "Jump 1, Take 0, Jump 3, Take 1, Split 6 5, Jump 10, Take 0, Jump 8, Take 1, Jump 10, End",
		"(a{12})+":    "Jump 1, Take 0, Split 1 3, Split 5 4, Jump 8, Take 0, Split 1 7, Jump 8, End",
		"(a|b){22}":   "Split 2 1, Jump 5, Take 0, Split 8 4, Jump 10, Take 1, Split 8 7, Jump 10, Take 0, Jump 12, Take 1, Jump 12, End",
		"(a{22}){12}": "Jump 1, Take 0, Jump 3, Take 0, Split 6 5, Jump 10, Take 0, Jump 8, Take 0, Jump 10, End",
	})
}

// P6: what a block has ahead of its chain, and in which order.
func TestCompileBlocks(t *testing.T) {
	wantPrograms(t, "1032", map[string]string{
		"a@0":                            "Jump 1, Take 0, Span 0, Jump 4, End",
		"a@07":                           "Jump 1, Take 0, Span 7, Jump 4, End",
		"a@999999999999999999":           "Jump 1, Take 0, Span 999999999999999999, Jump 4, End",
		"aB":                             "Jump 1, Take 0, Hold 0, Jump 4, End",
		"a[x<1]":                         "Jump 1, Take 0, Only x < 1, Jump 4, End",
		"bQ[t>3&2=t]@4":                  "Jump 1, Take 1, Span 4, Only t > 3, Only 2 = t, Hold 0, Jump 7, End",
		"c[x<y&y>z+t&z=x-y&t#5*z]":       "Jump 1, Take 2, Only x < y, Only y > z + t, Only z = x - y, Only t # 5 * z, Jump 7, End",
		"c[999999999999999999<0-007]":    "Jump 1, Take 2, Only 999999999999999999 < 0 - 7, Jump 4, End",
		"cC d[Cz=Cy*2]":                  "Jump 1, Take 2, Hold 0, Jump 4, Take 3, Only 0z = 0y * 2, Jump 7, End",
		".A .[At=t-1]":                   "Jump 1, Take 4, Hold 0, Jump 4, Take 4, Only 0t = t - 1, Jump 7, End",
		" a A [ x < 1 2 ] d [ A x = 1 ]": "Jump 1, Take 0, Only x < 12, Hold 0, Jump 5, Take 3, Only 0x = 1, Jump 8, End",
	})
}

// P6: the places of names are told by the steps that have them, not by the
// letters, nor by the tests.
func TestCompileNames(t *testing.T) {
	wantPrograms(t, "11", map[string]string{
		"aZ bA":       "Jump 1, Take 0, Hold 0, Jump 4, Take 1, Hold 1, Jump 7, End",
		"(aA|b)bB":    "Split 2 1, Jump 5, Take 0, Hold 0, Jump 7, Take 1, Jump 7, Take 1, Hold 1, Jump 10, End",
		"aQ|aP|aQ|aP": "Split 4 1, Split 7 2, Split 10 3, Jump 13, Take 0, Hold 0, Jump 16, Take 0, Hold 1, Jump 16, Take 0, Hold 0, Jump 16, Take 0, Hold 1, Jump 16, End",
		"aD aC aB aA b[Ax=Bx+Cx&Dx=1]": "Jump 1, Take 0, Hold 0, Jump 4, Take 0, Hold 1, Jump 7, Take 0, Hold 2, Jump 10, Take 0, Hold 3, Jump 13, " +
			"Take 1, Only 3x = 2x + 1x, Only 0x = 1, Jump 17, End",
		"aY aX[Yt<t] (b[Xx=x])*": "Jump 1, Take 0, Hold 0, Jump 4, Take 0, Only 0t < t, Hold 1, Split 9 8, Jump 13, Take 1, Only 1x = x, Split 9 12, Jump 13, End",
		// In rounds that are written out each place has the step's tests.
		"aM b[x=Mx]{12}": "Jump 1, Take 0, Hold 0, Jump 4, Take 1, Only x = 0x, Split 8 7, Jump 11, Take 1, Only x = 0x, Jump 11, End",
	})
}

// P6: MaxPlaces places, each of which follows each, with all that a block may have.
func TestCompileMost(t *testing.T) {
	const most = api.MaxPlaces
	text := "(((.[t<1&t<2&t<3&t<4]?){88}){33})*@5"
	head := codeOf("Take 4, Span 5, Only t < 1, Only t < 2, Only t < 3, Only t < 4")
	start := func(place int) int { return most + place*(len(head)+most+1) }
	var want []api.Ins
	chain := func(n int) {
		for i := 0; i < n-1; i++ {
			want = append(want, api.Ins{Op: api.Split, A: start(i), B: len(want) + 1})
		}
		want = append(want, api.Ins{Op: api.Jump, A: start(n - 1)})
	}
	chain(most)
	for i := 0; i < most; i++ {
		want = append(want, head...)
		chain(most + 1)
	}
	want = append(want, api.Ins{Op: api.End})
	wantCode(t, "1", text, want)
}

// P6: MaxPlaces places in a row, and one more.
func TestCompileRow(t *testing.T) {
	want := []api.Ins{{Op: api.Jump, A: 1}}
	for i := 0; i < api.MaxPlaces; i++ {
		want = append(want, api.Ins{Op: api.Take}, api.Ins{Op: api.Jump, A: len(want) + 2})
	}
	want = append(want, api.Ins{Op: api.End})
	for _, text := range []string{many("a", 24), "a{99}a{99}a{66}", "(a{66}){44}", "((a{22}){33}){44}", "(aa){99}(a{33}){22}"} {
		wantCode(t, "0", text, want)
	}
	for _, text := range []string{many("a", 25), "a{99}a{99}a{77}", "(a{55}){55}", "(a{99}){99}"} {
		if code, e := Compile("0", text); code != nil || e != api.ErrLarge {
			t.Errorf("Compile(%q) = %v, %d", text, code, e)
		}
	}
}

// P1, P6: the error of Check, and no program with it.
func TestCompileErrors(t *testing.T) {
	for _, c := range []answer{
		{"", many("!", 121), api.ErrLong, 0},
		{"9", many("a", 121), api.ErrLong, 0},
		{"1", many("a", 1<<20), api.ErrLong, 0},
		{"1", many("(", 1<<20), api.ErrLong, 0},
		{"", "a", api.ErrSchema, 0},
		{"4", "a)", api.ErrSchema, 0},
		{"11111", "e", api.ErrSchema, 0},
		{"1", "", api.ErrSyntax, 0},
		{"1", "\x00", api.ErrSyntax, 0},
		{"1", "a\xff", api.ErrSyntax, 0},
		{"1", "b)", api.ErrSyntax, 0},
		{"1", "a{32}", api.ErrSyntax, 0},
		{"1", "b", api.ErrType, 0},
		{"1", "aA*", api.ErrType, 0},
		{"1", "b{99}b{99}b{99}", api.ErrType, 0},
		{"1", "a{99}a{99}a{99}", api.ErrLarge, 0},
		{"1", "aAaBaCaDaE", api.ErrLarge, 0},
		{"1", "a[x=1&x=1&x=1&x=1&x=1]", api.ErrLarge, 0},
	} {
		if code, e := Compile(c.schema, c.text); code != nil || e != c.e {
			t.Errorf("Compile(%q, %.60q) = %v, %d, want %d", c.schema, c.text, code, e, c.e)
		}
	}
}

// P1, P6, P7: at any text the error of Check, or else a valid program.
func TestCompileAnyText(t *testing.T) {
	d := dice(11)
	fine := 0
	for i := 0; i < 60000; i++ {
		schema := d.pick("0123") + d.text("0123", 3)
		text := d.text("aaaab.cAB[]x<3=&()|*+?{12} @", 14)
		want, _ := Check(schema, text)
		code, e := Compile(schema, text)
		if e != want || (code == nil) != (e != api.OK) {
			t.Fatalf("Compile(%q, %q) = %v, %d, want %d", schema, text, code, e, want)
		}
		if e == api.OK {
			fine++
			wantValid(t, code, api.OK, 0)
		}
	}
	if fine < 500 {
		t.Errorf("the dice made only %d patterns", fine)
	}
}

// P2: what a caller writes into a program, or behind it, changes no other one,
// and no later call changes it.
func TestCompileIsFresh(t *testing.T) {
	texts := []string{"a*b", "aA[x<5] b[x>Ax+1] @9", "(a?b){13}"}
	for _, text := range texts {
		first, _ := Compile("11", text)
		kept := slices.Clone(first)
		second, _ := Compile("11", text)
		for _, other := range texts {
			Compile("11", other)
		}
		if !slices.Equal(first, kept) || !slices.Equal(second, kept) {
			t.Errorf("%q: a later call changes a program", text)
		}
		spoil(first)
		if !slices.Equal(second, kept) {
			t.Errorf("%q: two programs share their room", text)
		}
		third, e := Compile("11", text)
		if e != api.OK || !slices.Equal(third, kept) {
			t.Errorf("%q: what a caller writes changes a later answer", text)
		}
	}
}

// spoil writes into a list and into its spare room.
func spoil(code []api.Ins) {
	code = code[:cap(code)]
	for i := range code {
		code[i] = api.Ins{Op: 99, A: -1, B: -1, Test: api.Test{Rel: 99}}
	}
}
