package spotter

import (
	"strings"
	"testing"

	"spotter/api"
)

type answer struct {
	schema, text string
	e            api.Errno
	at           int
}

func wantAnswers(t *testing.T, list []answer) {
	t.Helper()
	for _, c := range list {
		if e, at := Check(c.schema, c.text); e != c.e || at != c.at {
			t.Errorf("Check(%q, %.60q) = %d, %d, want %d, %d", c.schema, c.text, e, at, c.e, c.at)
		}
	}
}

// oneSchema gives answers for the schema "1321": a has x; b x, y, z; c x, y; d x.
func oneSchema(e api.Errno, places map[string]int) []answer {
	var list []answer
	for text, at := range places {
		list = append(list, answer{"1321", text, e, at})
	}
	return list
}

func many(text string, n int) string { return strings.Repeat(text, n) }

func TestExamples(t *testing.T) {
	wantAnswers(t, []answer{
		{"1", "a b", api.ErrType, 2},
		{"11", "a{32}", api.ErrSyntax, 3},
		{"1", "(a|", api.ErrSyntax, 3},
		{"1", "aA[x<Ax]", api.ErrType, 0},
		{"11", "(aA|b)b[x=Ax]", api.ErrType, 6},
		{"1", "a{99}", api.OK, 0},
		{"1", "(a{55}){55}", api.ErrLarge, 0},
		{"11", "aA .* b[x>Ax] @5", api.OK, 0},
	})
}

// P1, P3: of several errors the one named first, and 0 where no place is named.
func TestOrderOfErrors(t *testing.T) {
	wantAnswers(t, []answer{
		{"", many("!", 121), api.ErrLong, 0},
		{"9", many("a", 121), api.ErrLong, 0},
		{"1", many("c", 121), api.ErrLong, 0},
		{"9", many("a", 120), api.ErrSchema, 0},
		{"", "aaa!", api.ErrSchema, 0},
		{"9", "aaac", api.ErrSchema, 0},
		{"1", "bb!", api.ErrSyntax, 2},
		{"1", many("a", 30) + "!", api.ErrSyntax, 30},
		{"1", many("a", 30) + "b", api.ErrType, 30},
		{"1", "aAaBaCaDaEb", api.ErrType, 10},
		{"1", "a[x=1&x=1&x=1&x=1&y=1]", api.ErrType, 0},
		{"1", many("a", 30), api.ErrLarge, 0},
	})
}

func TestLength(t *testing.T) {
	wantAnswers(t, []answer{
		{"1", "a" + many(" ", 119), api.OK, 0},
		{"1", "a" + many(" ", 120), api.ErrLong, 0},
		{"1", many(" ", 119) + "a", api.OK, 0},
		{"1", many(" ", 120), api.ErrSyntax, 120},
		{"1", many(" ", 119) + "(", api.ErrSyntax, 120},
		{"1", many(" ", 119) + ")", api.ErrSyntax, 119},
		{"1", many("a", 1<<20), api.ErrLong, 0},
		{"1", many("(", 1<<20), api.ErrLong, 0},
	})
}

func TestSchemas(t *testing.T) {
	for _, schema := range []string{"", "4", "9", "/", ":", "a", "14", "1 ", " 1", "11111", "0000a", "\x00", "1\x00", "\xff", "１", many("1", 1<<20)} {
		wantAnswers(t, []answer{{schema, "a", api.ErrSchema, 0}})
	}
	for _, schema := range []string{"0", "1", "2", "3", "30", "012", "0123", "3333"} {
		wantAnswers(t, []answer{{schema, "a", api.OK, 0}})
	}
}

func TestDepth(t *testing.T) {
	wantAnswers(t, []answer{
		{"1", many("(", 8) + "a" + many(")", 8), api.OK, 0},
		{"1", many("(", 9) + "a" + many(")", 9), api.ErrSyntax, 8},
		{"1", many("( ", 9), api.ErrSyntax, 16},
		{"1", many("(", 8) + "a(", api.ErrSyntax, 9},
		{"1", many("(", 8) + "a)(a)" + many(")", 7), api.OK, 0},
		{"1", many("(", 8) + "a)((", api.ErrSyntax, 11},
		{"1", many("(a)", 20), api.OK, 0},
		// Braces, brackets and a window's number do not count.
		{"1", many("(", 8) + "a[x<1]{12}" + many("){11}", 8) + "@5", api.OK, 0},
	})
}

func TestNumbers(t *testing.T) {
	digits := "123456789012345678"
	wantAnswers(t, []answer{
		{"1", "a@" + digits, api.OK, 0},
		{"1", "a@" + digits + "9", api.ErrSyntax, 20},
		{"1", "a@" + digits + " 9", api.ErrSyntax, 21},
		{"1", "a@" + many("0", 18), api.OK, 0},
		{"1", "a@" + many("0", 19), api.ErrSyntax, 20},
		{"1", "a@" + many("9 ", 18), api.OK, 0},
		{"1", "a[" + digits + "<" + digits + "*" + digits + "]", api.OK, 0},
		{"1", "a[" + digits + "0<1]", api.ErrSyntax, 20},
		{"1", "a[x<" + digits + "0]", api.ErrSyntax, 22},
		{"1", "a[x<1+" + digits + "0]", api.ErrSyntax, 24},
	})
}

// P3: the first byte that cannot stand there, or the length of what ends too early.
func TestSyntax(t *testing.T) {
	wantAnswers(t, oneSchema(api.OK, map[string]int{
		"a": 0, "a|b|c|d|.": 0, "(a)(b)": 0, "((a|b)*|c+)?": 0, "a{09}": 0, "a{11}": 0, "(a*)+": 0,
		"a[1<2]": 0, "aA[t=1&x#t-5]": 0, "aQ b[ Q x > 1 * Q t ] @ 1 2": 0, ".Z[t>3]": 0,
	}))
	wantAnswers(t, oneSchema(api.ErrSyntax, map[string]int{
		"": 0, " ": 1, "e": 0, "x": 0, "1": 0, "A": 0, "[": 0, "{": 0, "*": 0, "|": 0, ")": 0, "@": 0, "(": 1,
		"(|a)": 1, "()": 1, "(a|)": 3, "a|": 2, "a|*": 2, "(a": 2, "(a ": 3, "a)": 1, "(a))": 3,
		"a**": 2, "a*{": 2, "a{12}*": 5, "a? +": 3, "(a)*?": 4,
		"a{": 2, "a{ ": 3, "a{}": 2, "a{a": 2, "a{3": 3, "a{33": 4, "a{3}": 3, "a{32": 3, "a{00": 3, "a{0}": 3, "a{9 8": 4, "a{11a": 4, "a{111": 4, "a{1,": 3,
		"aAA": 2, "aAx": 2, "ax": 1, "a1": 1, "a]": 1, "a}": 1, "a&": 1, "a<": 1, "a-": 1, "a[x<1]A": 6, "a*A": 2, "(a)A": 3,
		"a[": 2, "a[]": 2, "a[&": 2, "a[<": 2, "a[a": 2, "a[x": 3, "a[x]": 3, "a[x&": 3, "a[x x": 4, "a[x+": 3, "a[A": 3, "a[A<": 3, "a[A1": 3, "a[AA": 3, "a[1A": 3, "a[1x": 3, "a[-": 2,
		"a[x<": 4, "a[x<]": 4, "a[x<<": 4, "a[x<=": 4, "a[x<-": 4, "a[x<1": 5, "a[x<1<": 5, "a[x<1x": 5, "a[x<xx": 5, "a[x<1+": 6, "a[x<1++": 6, "a[x<1+1+": 7, "a[x<1+1": 7, "a[x<1&": 6, "a[x<1&]": 6, "a[x<1]]": 6, "a[x<1][": 6, "a[x<1)": 5,
		"a@": 2, "a@ ": 3, "a@x": 2, "a@-1": 2, "a@1a": 3, "a@1 @": 4, "a@1*": 3, "a@1)": 3, "(a@": 2, "a|@": 2,
		"a\x00": 1, "\x00": 0, "a[x<1\x00": 5, "a\t": 1, "a\n": 1, "a\xa0": 1, "\xc3\xa1": 0, "a@1\x00": 3, "a@\x00": 2, "a{\xb2": 2, "B": 0, "b[X": 3,
	}))
}

// P4, a line of the list after the other.
func TestKindInSchema(t *testing.T) {
	wantAnswers(t, []answer{
		{"0", "b", api.ErrType, 0}, {"00", "abc", api.ErrType, 2}, {"000", "abc", api.OK, 0}, {"000", "ab( d|c)", api.ErrType, 4},
		{"0", ".", api.OK, 0}, {"0000", "abcd", api.OK, 0}, {"000", "a|d*", api.ErrType, 2}, {"0", " a  d c", api.ErrType, 4},
	})
}

func TestNameInRepetition(t *testing.T) {
	wantAnswers(t, oneSchema(api.ErrType, map[string]int{
		"aA*": 0, "aA+": 0, "aA?": 0, "aA{11}": 0, "aA[x<1]{22}": 0, "b(aA)?": 2, "(b(a|cC))+": 5, "((aA))*": 2, "(bB(a*))?": 1, "a*(b*aA)*": 5,
	}))
	wantAnswers(t, oneSchema(api.OK, map[string]int{"a*aA b*": 0, "(aA)b?": 0, "(b+aA)": 0, "aA(b*|c)": 0}))
}

func TestNameTwice(t *testing.T) {
	wantAnswers(t, oneSchema(api.ErrType, map[string]int{
		"aAaA": 2, "aAb*aA": 4, "(aA|b)aA": 6, "(b|aA)aA": 6, "aA(b|aA)": 5, "aA(aA|b)": 3, "aA(b|(c|aA))": 8, "aAbB(aC|bB)": 8,
	}))
	wantAnswers(t, oneSchema(api.OK, map[string]int{
		"aA|aA": 0, "aAb|baA": 0, "(aA|b(c|aA))": 0, "aA|b|aA|aA": 0, "(aA|bB)(c|aC)": 0,
	}))
}

func TestNameOfOtherKind(t *testing.T) {
	wantAnswers(t, oneSchema(api.ErrType, map[string]int{
		"aA|bA": 3, "aA|.A": 3, ".A|aA": 3, "aA|b|(aA|dA)": 9, "aA|bB|bA": 6,
	}))
	wantAnswers(t, oneSchema(api.OK, map[string]int{".A|.A": 0, "aA|bB|aA|bB": 0}))
}

func TestOwnFields(t *testing.T) {
	for kind, schema := range []string{"0333", "3133", "3323", "3333"} {
		for field, letter := range "txyz" {
			want := answer{schema, "", api.OK, 0}
			if field > kind {
				want.e = api.ErrType
			}
			for _, test := range []string{"_<1", "1<_", "1<2+_", "1<_-2", "t<1&t<_"} {
				want.text = string(rune('a'+kind)) + "[" + strings.ReplaceAll(test, "_", string(letter)) + "]"
				wantAnswers(t, []answer{want})
			}
		}
	}
	wantAnswers(t, []answer{
		{"3333", ".[t<1]", api.OK, 0}, {"3333", ".[x<1]", api.ErrType, 0}, {"3333", "a.[1<y]", api.ErrType, 1}, {"3333", ".[1<t*z]", api.ErrType, 0},
	})
}

func TestHeldOnEveryWay(t *testing.T) {
	wantAnswers(t, oneSchema(api.ErrType, map[string]int{
		"a[x<Ax]": 0, "aA[x<Ax]": 0, "aA[1<Ax]": 0, "aA[1<2+Ax]": 0, "b[x<Ax]aA": 0, "aA|b[x<Ax]": 3, "(aA|b)c[x<Ax]": 6, "(b|aA)c[x<Ax]": 6,
		"(aA|bB)c[x<Bx]": 7, "aA(b[x<Bx]|bB)": 3, "(aA|b(aA|c))d[1<At]": 12, "aA b[x<Ax&x<Bx]": 3, "(b[x<Ax]aA)*": 1, "(aAb[x<Ax])*": 1,
		"((a|bB)|bB)c[t=Bt]": 11, "aA b[1<Ax+Bx]": 3, "aA b[Bx=1]": 3, "(aA|aA|b)c[t=At]": 9,
	}))
	wantAnswers(t, oneSchema(api.OK, map[string]int{
		"aAb[x<Ax]": 0, "(aA|aA)b[x<Ax]": 0, "(aA|b(aA|caA))d[1<At]": 0, "aA(b|c*)(d|b[x<Ax])": 0, "aA(b(c|d[x=Ax])*)?": 0, "aA(b[x<Ax]|c)+": 0,
		"(aAb|c)|aA b[x<Ax]": 0, "(aA(b|c))d[x=Ax]": 0, "aAbB[x=Ax]cC[x=Ax+Bz&t>Bt]": 0, "aA((bB|c)d[x=Ax])": 0,
	}))
}

func TestFieldsOfHeld(t *testing.T) {
	wantAnswers(t, oneSchema(api.ErrType, map[string]int{
		"aA b[y<Ay]": 3, "aA b[1<Az]": 3, "aA b[Ay=1]": 3, "cA b[1<2+Az]": 3, ".A b[x<Ax]": 3, "(aA|aA)b[y=Ay]": 7,
	}))
	wantAnswers(t, oneSchema(api.OK, map[string]int{
		"aA b[y<Ax]": 0, "bA a[x<Az]": 0, "cA b[1<2+Ay]": 0, ".A b[x<At]": 0, "bA .[t<Az]": 0, "aA bB[t=At] a[Bz<Ax*Bt]": 0,
	}))
}

func TestFirstWrongStep(t *testing.T) {
	wantAnswers(t, []answer{
		{"1", "a[y<1]b", api.ErrType, 0}, {"1", "b a[y<1]", api.ErrType, 0}, {"1", "aA aA b", api.ErrType, 3}, {"1", "(a(aA[x<1]) b)*", api.ErrType, 3},
		{"1", "  ( aB | a C) b", api.ErrType, 14}, {"11", "a[x<Bx](bB)*", api.ErrType, 0}, {"11", "aA bA aA*", api.ErrType, 3},
	})
}

func TestBounds(t *testing.T) {
	wantAnswers(t, []answer{
		{"1", "aAaBaCaD", api.OK, 0}, {"1", "aAaBaCaDaE", api.ErrLarge, 0}, {"1", "aA|aB|aC|aD|aA", api.OK, 0}, {"1", "aA|aB|aC|aD|aZ", api.ErrLarge, 0},
		{"1", "a[x=1&x=2&x=3&x=4]", api.OK, 0}, {"1", "a[x=1&x=2&x=3&x=4&x=5]", api.ErrLarge, 0}, {"1", "a[x=1&x=2&x=3&x=4]a[x=1&x=2&x=3]", api.OK, 0}, {"1", "a|(a[1=1&1=1&1=1&1=1&1=1])*", api.ErrLarge, 0},
		{"1", many("a", 24), api.OK, 0}, {"1", many("a", 25), api.ErrLarge, 0}, {"1", many("a|", 23) + "a", api.OK, 0}, {"1", many("a|", 24) + "a", api.ErrLarge, 0},
		{"1", "a{88}(aa){88}", api.OK, 0}, {"1", "a{88}(aa){88}a", api.ErrLarge, 0}, {"1", "(a{04}){06}", api.OK, 0}, {"1", "(a{05}){05}", api.ErrLarge, 0},
		{"1", many("a*", 24), api.OK, 0}, {"1", many("a?", 25), api.ErrLarge, 0}, {"1", "(a{38}a?)+(a*){66}a{99}", api.OK, 0}, {"1", "(a{38}a?)+(a*){67}a{99}", api.ErrLarge, 0},
		{"1", many("(", 8) + "a{99}" + many("){99}", 8), api.ErrLarge, 0}, {"1", many("(", 8) + "a{99}" + many("){99}", 8) + many("a", 40), api.ErrLarge, 0},
	})
}

// P2: an answer hangs on its own arguments, not on the calls ahead of it.
func TestSameAnswersAgain(t *testing.T) {
	list := []answer{
		{"1", "aAaBaCaDaE", api.ErrLarge, 0}, {"11", "aAb[x=Ax]", api.OK, 0}, {"1", "((((((((a", api.ErrSyntax, 9}, {"1", "b", api.ErrType, 0},
		{"11", "b[x=Ax]", api.ErrType, 0}, {"", "a", api.ErrSchema, 0}, {"1", "a", api.OK, 0}, {"1", many("a", 121), api.ErrLong, 0},
	}
	for _, first := range list {
		for _, second := range list {
			wantAnswers(t, []answer{first, second, first})
		}
	}
}

// P1: any bytes have an answer, and its place lies in the text or at its end.
func TestAnyBytes(t *testing.T) {
	d := dice(1)
	for i := 0; i < 200000; i++ {
		schema := d.text("0123/4 a\x00", 6)
		text := d.text("abcd.ABZ[]()|&*+?{}<>=#-@txyz0129 \x00\xff!", 130)
		if i%2 == 0 {
			schema = "1321"
		}
		e, at := Check(schema, text)
		if e < api.OK || e > api.ErrLarge || at < 0 || at > len(text) || e != api.ErrSyntax && e != api.ErrType && at != 0 {
			t.Fatalf("Check(%q, %q) = %d, %d", schema, text, e, at)
		}
	}
}
