package spotter

import (
	"fmt"
	"slices"
	"strings"
	"testing"

	"spotter/api"
)

func mustNew(t *testing.T, schema string, lim api.Limits, text string) *Spotter {
	t.Helper()
	x, e := New(schema, lim, text)
	if e != api.OK || x == nil {
		t.Fatalf("New(%q, %v, %q) = %v, %d", schema, lim, text, x, e)
	}
	if x.Live() != 0 || x.Count() != 0 {
		t.Fatalf("a new spotter has Live %d, Count %d", x.Live(), x.Count())
	}
	return x
}

// taken answers the events that are taken into the stream.
func taken(schema string, fed []api.Event) []api.Event {
	m := &machine{schema: schema}
	for _, e := range fed {
		if m.isGood(e) {
			m.stream = append(m.stream, e)
		}
	}
	return m.stream
}

// wantMatches feeds a spotter of a pattern: it is to find what the words of the
// document say, and to answer in all else as a machine that runs the pattern's
// program. It answers how many matches there were.
func wantMatches(t *testing.T, schema string, text string, fed []api.Event) int {
	t.Helper()
	x := mustNew(t, schema, wide, text)
	code, _ := Compile(schema, text)
	m := &machine{schema: schema, lim: wide, code: code}
	all := wordsOf(text).matchesIn(taken(schema, fed))
	found := 0
	for i, e := range fed {
		var want []api.Match
		got, gotErrno := x.Feed(e)
		_, wantErrno := m.feed(e)
		if wantErrno == api.OK {
			want = inOrder(all[len(m.stream)-1])
		}
		if gotErrno != wantErrno || !slices.Equal(got, want) || x.Live() != len(m.waiting) || x.Count() != len(m.stream) {
			t.Fatalf("%q, %q: %v: event %d: %q, Live %d, Count %d, want %q, %d, %d", schema, text, fed, i,
				told(got, gotErrno), x.Live(), x.Count(), told(want, wantErrno), len(m.waiting), len(m.stream))
		}
		found += len(got)
	}
	return found
}

// fed: an event, and the matches that end with it.
type fed struct{ event, answer string }

// wantFound feeds a spotter of a pattern for the schema "1321": a has x; b x,
// y, z; c x, y; d x. The answers, and what the words of the document say, are
// to be as they are written here.
func wantFound(t *testing.T, text string, list []fed) {
	t.Helper()
	x := mustNew(t, "1321", wide, text)
	var events []api.Event
	for i, c := range list {
		events = append(events, eventOf(c.event))
		matches, e := x.Feed(events[i])
		if got := told(matches, e); got != c.answer {
			t.Fatalf("%q: event %d, %q: %q, want %q", text, i, c.event, got, c.answer)
		}
	}
	wantMatches(t, "1321", text, events)
}

func TestMatchesExample(t *testing.T) {
	wantTurns(t, "the example", mustNew(t, "11", wide, "aA .* b[x>Ax] @5"), []turn{
		{"a 0 7", "", 2}, {"a 2 3", "", 4}, {"b 4 5", "1 2 [1]", 4}, {"b 6 9", "1 3 [1]", 2}, {"b 8 9", "", 0},
	})
}

// P13: steps of each kind, one behind the other, either, and rounds.
func TestMatchesOfParts(t *testing.T) {
	for kind := range api.MaxKinds {
		list := []fed{{"a 0", ""}, {"b 0", ""}, {"c 0", ""}, {"d 0", ""}}
		list[kind].answer = fmt.Sprint(kind, kind, " []")
		wantFound(t, "abcd"[kind:kind+1], list)
	}
	wantFound(t, ".", []fed{{"a 0", "0 0 []"}, {"b 0", "1 1 []"}, {"c 0", "2 2 []"}, {"d 0", "3 3 []"}})
	wantFound(t, "ab", []fed{{"a 0", ""}, {"b 0", "0 1 []"}, {"b 0", ""}, {"a 0", ""}, {"a 0", ""}, {"b 0", "4 5 []"}})
	wantFound(t, "ab|b|c", []fed{{"a 0", ""}, {"b 0", "0 1 [], 1 1 []"}, {"b 0", "2 2 []"}, {"c 0", "3 3 []"}, {"d 0", ""}})
	wantFound(t, "ab*c", []fed{{"a 0", ""}, {"c 0", "0 1 []"}, {"a 0", ""}, {"b 0", ""}, {"b 0", ""}, {"c 0", "2 5 []"}, {"c 0", ""}})
	wantFound(t, "ab+c", []fed{{"a 0", ""}, {"c 0", ""}, {"a 0", ""}, {"b 0", ""}, {"b 0", ""}, {"c 0", "2 5 []"}, {"c 0", ""}})
	wantFound(t, "ab?c", []fed{{"a 0", ""}, {"c 0", "0 1 []"}, {"a 0", ""}, {"b 0", ""}, {"c 0", "2 4 []"}, {"a 0", ""}, {"b 0", ""}, {"b 0", ""}, {"c 0", ""}})
	wantFound(t, "ab{12}c", []fed{{"a 0", ""}, {"c 0", ""}, {"a 0", ""}, {"b 0", ""}, {"c 0", "2 4 []"}, {"a 0", ""}, {"b 0", ""}, {"b 0", ""}, {"c 0", "5 8 []"}, {"a 0", ""}, {"b 0", ""}, {"b 0", ""}, {"b 0", ""}, {"c 0", ""}})
	wantFound(t, "(ab)+", []fed{{"a 0", ""}, {"b 0", "0 1 []"}, {"a 0", ""}, {"b 0", "0 3 [], 2 3 []"}, {"b 0", ""}})
	wantFound(t, "((a|b)c)*d", []fed{{"a 0", ""}, {"c 0", ""}, {"b 0", ""}, {"c 0", ""}, {"d 0", "0 4 [], 2 4 [], 4 4 []"}, {"d 0", "5 5 []"}})
}

// P13: an empty stretch is no match; rounds that may take nothing end.
func TestMatchesOfNothing(t *testing.T) {
	for _, text := range []string{"a?", "a*", "(a*)*", "(a?)+", "(a?b?)*", "a{09}", "(a?){99}", "((a*)?)+|b?"} {
		wantFound(t, text, []fed{{"c 0", ""}, {"c 0", ""}, {"a 0", "2 2 []"}, {"c 0", ""}})
	}
	for _, text := range []string{"(a?b?)*", "(a*b*)+", "(a?|b?)*", "((a|b)?){09}", "(a{02}|b{02})*", "((a?)*(b?)*)*"} {
		wantFound(t, text, []fed{{"b 0", "0 0 []"}, {"a 0", "0 1 [], 1 1 []"}, {"a 0", "0 2 [], 1 2 [], 2 2 []"}, {"c 0", ""}, {"b 0", "4 4 []"}})
	}
	wantFound(t, "a?b?", []fed{{"b 0", "0 0 []"}, {"a 0", "1 1 []"}, {"b 0", "1 2 [], 2 2 []"}, {"b 0", "3 3 []"}})
	wantFound(t, "(a?){22}b", []fed{{"a 0", ""}, {"a 0", ""}, {"a 0", ""}, {"b 0", "1 3 [], 2 3 [], 3 3 []"}})
	wantFound(t, "(a?b?){22}", []fed{{"b 0", "0 0 []"}, {"a 0", "0 1 [], 1 1 []"}, {"b 0", "0 2 [], 1 2 [], 2 2 []"}, {"a 0", "1 3 [], 2 3 [], 3 3 []"}})
	wantFound(t, "c(a?b*)*d", []fed{{"c 0", ""}, {"d 0", "0 1 []"}, {"c 0", ""}, {"b 0", ""}, {"a 0", ""}, {"a 0", ""}, {"d 0", "2 6 []"}})
}

// P13: matches that are alike are one, whichever way leads to them.
func TestMatchesAlike(t *testing.T) {
	for _, text := range []string{"a|a", "(a|.)", "a|a|a?", "(a|a|b)", "a*a?|.", "aA|aA", "(aA|aA)"} {
		held := map[bool]string{true: "[0]", false: "[]"}[strings.Contains(text, "A")]
		wantFound(t, text, []fed{{"a 0", "0 0 " + held}})
	}
	wantFound(t, "(a|.)(b|.)", []fed{{"a 0", ""}, {"b 0", "0 1 []"}, {"b 0", "1 2 []"}})
	wantFound(t, "a*a*", []fed{{"a 0", "0 0 []"}, {"a 0", "0 1 [], 1 1 []"}, {"a 0", "0 2 [], 1 2 [], 2 2 []"}})
	wantFound(t, "(aA b|aA .)c", []fed{{"a 0", ""}, {"b 0", ""}, {"c 0", "0 2 [0]"}})
	// Not alike in what is held.
	wantFound(t, "a*aA a*", []fed{{"a 0", "0 0 [0]"}, {"a 0", "0 1 [0], 0 1 [1], 1 1 [1]"}, {"a 0", "0 2 [0], 0 2 [1], 0 2 [2], 1 2 [1], 1 2 [2], 2 2 [2]"}})
	wantFound(t, "aA|aB|a", []fed{{"a 0", "0 0 [], 0 0 [-1 0], 0 0 [0]"}})
}

// P13: names that are held on one way only, and names that each way holds anew.
func TestMatchesHeldOnOneWay(t *testing.T) {
	wantFound(t, "(aA|b)c", []fed{{"a 0", ""}, {"c 0", "0 1 [0]"}, {"b 0", ""}, {"c 0", "2 3 []"}})
	wantFound(t, "(a|aA)b", []fed{{"a 0", ""}, {"b 0", "0 1 [], 0 1 [0]"}})
	wantFound(t, "(aZ|bY)(cX|dW)", []fed{{"a 0", ""}, {"d 0", "0 1 [0 -1 -1 1]"}, {"b 0", ""}, {"c 0", "2 3 [-1 2 3]"}, {"a 0", ""}, {"c 0", "4 5 [4 -1 5]"}, {"b 0", ""}, {"d 0", "6 7 [-1 6 -1 7]"}})
	wantFound(t, "(aA b|b aA)c[x=Ax]", []fed{{"a 0 1", ""}, {"b 0", ""}, {"c 0 1", "0 2 [0]"}, {"b 0", ""}, {"a 0 2", ""}, {"c 0 2", "3 5 [4]"}, {"a 0 3", ""}, {"b 0", ""}, {"a 0 4", ""}, {"c 0 3", ""}})
	wantFound(t, "aA bB|bB aA", []fed{{"a 0", ""}, {"b 0", "0 1 [0 1]"}, {"a 0", "1 2 [2 1]"}, {"b 0", "2 3 [2 3]"}})
	wantFound(t, "(aA(b|c[x=Ax])|d)d", []fed{{"a 0 1", ""}, {"c 0 2", ""}, {"d 0", ""}, {"d 0", "2 3 []"}, {"a 0 1", ""}, {"c 0 1", ""}, {"d 0", "4 6 [4]"}})
	wantFound(t, "b*(cC|a*)dD", []fed{{"b 0", ""}, {"c 0", ""}, {"d 0", "0 2 [1 2], 1 2 [1 2], 2 2 [-1 2]"}})
}

// P13: tests see what is held ahead of them, in rounds too.
func TestMatchesReadHeld(t *testing.T) {
	wantFound(t, "aA(b[x=Ax]|c[x#Ax])+", []fed{{"a 0 1", ""}, {"b 0 1", "0 1 [0]"}, {"c 0 2", "0 2 [0]"}, {"c 0 1", ""}, {"b 0 1", ""}})
	wantFound(t, "aA.*bB[x>Ax]", []fed{{"a 0 3", ""}, {"a 1 1", ""}, {"b 2 2", "1 2 [1 2]"}, {"b 3 4", "0 3 [0 3], 1 3 [1 3]"}})
	wantFound(t, "aA aB[x>Ax] aC[x=Ax+Bx]", []fed{{"a 0 1", ""}, {"a 0 2", ""}, {"a 0 3", "0 2 [0 1 2]"}, {"a 0 5", "1 3 [1 2 3]"}, {"a 0 8", "2 4 [2 3 4]"}, {"a 0 2", ""}})
	wantFound(t, ".A b[x=At&t>At] .[t=At+5]{12}", []fed{{"c 4", ""}, {"b 6 4", ""}, {"d 9", "0 2 [0]"}, {"d 9", "0 3 [0]"}, {"d 9", ""}})
	wantFound(t, "a[t<1]a", []fed{{"a 0", ""}, {"a 0", "0 1 []"}, {"a 1", "1 2 []"}, {"a 1", ""}})
	wantFound(t, "bB c[y=Bz&x=By&1=Bx]", []fed{{"b 0 1 2 3", ""}, {"c 0 2 3", "0 1 [0]"}, {"b 0 1 2 3", ""}, {"c 0 3 2", ""}})
}

// P13: windows of 0, of the time between two events, and one below it.
func TestMatchesInWindows(t *testing.T) {
	wantFound(t, ".*@0", []fed{{"a 3", "0 0 []"}, {"b 3", "0 1 [], 1 1 []"}, {"c 4", "2 2 []"}, {"d 4", "2 3 [], 3 3 []"}})
	wantFound(t, "aA .@5", []fed{{"a 2", ""}, {"b 7", "0 1 [0]"}, {"a 7", ""}, {"b 13", ""}, {"a 13", ""}, {"a 13", "4 5 [4]"}, {"a 18", "5 6 [5]"}})
	wantFound(t, "ab*c@4", []fed{{"a 1", ""}, {"b 2", ""}, {"c 5", "0 2 []"}, {"a 5", ""}, {"b 6", ""}, {"c 10", ""}})
	// It is the whole stretch that counts, not what is between two events.
	wantFound(t, "a+@2", []fed{{"a 0", "0 0 []"}, {"a 1", "0 1 [], 1 1 []"}, {"a 2", "0 2 [], 1 2 [], 2 2 []"}, {"a 3", "1 3 [], 2 3 [], 3 3 []"}, {"a 5", "3 4 [], 4 4 []"}})
	wantFound(t, "(a|bc)@1", []fed{{"a 0", "0 0 []"}, {"b 1", ""}, {"c 2", "1 2 []"}, {"b 2", ""}, {"c 4", ""}})
	last := fmt.Sprint(api.MaxTime)
	wantFound(t, "ab@"+last, []fed{{"a 0", ""}, {"b " + last, "0 1 []"}})
	wantFound(t, "ab@"+fmt.Sprint(api.MaxTime-1), []fed{{"a 0", ""}, {"b " + last, ""}, {"a " + last, ""}, {"b " + last, "2 3 []"}})
	wantFound(t, "ab@999999999999999999", []fed{{"a 0", ""}, {"b " + last, "0 1 []"}})
}

const (
	least    = "-9223372036854775808"
	greatest = "9223372036854775807"
)

// P13: at the ends of 64 bits, and beyond them, where no relation holds.
func TestMatchesAtTheEnds(t *testing.T) {
	for _, rel := range []string{"<", ">", "=", "#"} {
		for _, c := range []struct{ arith, event string }{
			{"+", "b 0 0 " + greatest + " 1"}, {"+", "b 0 0 " + least + " -1"}, {"-", "b 0 0 " + least + " 1"}, {"-", "b 0 0 0 " + least}, {"-", "b 0 0 " + greatest + " -1"},
			{"*", "b 0 0 " + least + " -1"}, {"*", "b 0 0 -1 " + least}, {"*", "b 0 0 " + greatest + " 2"}, {"*", "b 0 0 4294967296 4294967296"}, {"*", "b 0 0 4294967296 2147483648"},
		} {
			wantFound(t, "b[x"+rel+"y"+c.arith+"z]", []fed{{c.event, ""}})
			wantFound(t, "bB c[x"+rel+"By"+c.arith+"Bz]", []fed{{c.event, ""}, {"c 0", ""}})
		}
	}
	for text, event := range map[string]string{
		"b[x=y+z]": "b 0 " + greatest + " 9223372036854775806 1", "b[x=y-z]": "b 0 " + greatest + " -1 " + least, "b[x=y*z]": "b 0 " + least + " 4294967296 -2147483648",
		"b[x<y]": "b 0 " + least + " " + greatest, "b[x>y]": "b 0 " + greatest + " " + least, "b[x#y]": "b 0 " + least + " " + greatest, "b[x>y*z]": "b 0 " + greatest + " " + least + " 1",
		"a[x=999999999999999999*9]": "a 0 8999999999999999991", "a[x=0-999999999999999999]": "a 0 -999999999999999999", "a[x>999999999999999999]": "a 0 1000000000000000000",
	} {
		wantFound(t, text, []fed{{event, "0 0 []"}})
	}
	wantFound(t, "a[x#999999999999999999*10]", []fed{{"a 0", ""}, {"a 0 " + greatest, ""}})
	wantFound(t, "aA a[x=Ax-1]", []fed{{"a 0 " + least, ""}, {"a 0 " + greatest, ""}, {"a 0 9223372036854775806", "1 2 [1]"}})
}

// P13: repetitions, and what they are written out, find the same.
func TestMatchesWrittenOut(t *testing.T) {
	s := &sound{dice: dice(47)}
	for _, c := range [][2]string{
		{"a{13}", "a(a(a)?)?"}, {"a{02}", "(a(a)?)?"}, {"a{22}", "aa"}, {"a{01}", "a?"}, {"(ab){12}", "ab(ab)?"}, {".{03}c", "(.(.(.)?)?)?c"}, {"(a?b?){23}", "a?b?a?b?(a?b?)?"},
		{"(a*){02}b", "(a*(a*)?)?b"}, {"(a|bb){12}", "(a|bb)(a|bb)?"}, {"((a|b){12}c?){02}", "((a|b)(a|b)?c?((a|b)(a|b)?c?)?)?"}, {"aA .{24} b[x>Ax]@6", "aA..(.(.)?)?b[x>Ax]@6"},
		{"a+", "aa*"}, {"(ab?)+", "ab?(ab?)*"}, {"a?", "(a|a)?"},
	} {
		found := 0
		for range 60 {
			x, y := mustNew(t, "210", wide, c[0]), mustNew(t, "210", wide, c[1])
			for _, e := range s.events() {
				got, gotErrno := x.Feed(e)
				want, wantErrno := y.Feed(e)
				if gotErrno != wantErrno || !slices.Equal(got, want) {
					t.Fatalf("%q: %q; %q: %q", c[0], told(got, gotErrno), c[1], told(want, wantErrno))
				}
				found += len(got)
			}
		}
		if found < 10 {
			t.Errorf("%q had only %d matches", c[0], found)
		}
	}
}

// P13: as many places as there may be.
func TestMatchesOfLongPatterns(t *testing.T) {
	for _, c := range []struct {
		text string
		row  int // how many events the stretches have, or at most, if fewer may do
		less bool
	}{
		{many("a", 24), 24, false},
		{"a{99}a{99}a{66}", 24, false},
		{"((a{22}){33}){44}", 24, false},
		{"(a{09}){22}a{06}", 24, true},
		{"(a?){99}(.?){99}(a|b){03}", 21, true},
		{many("(", 8) + "a{13}" + many("){12}", 3) + many(")", 5), 24, true},
	} {
		x := mustNew(t, "00", wide, c.text)
		for i := range 60 {
			var want []api.Match
			for first := max(0, i-c.row+1); first <= i; first++ {
				if c.less || i-first == c.row-1 {
					want = append(want, api.Match{First: first, Last: i, Held: [4]int{-1, -1, -1, -1}})
				}
			}
			// So many ways through it are soon too many threads.
			if got, e := x.Feed(api.Event{At: i}); e == api.ErrLimit && c.less && i > 8 {
				break
			} else if e != api.OK || !slices.Equal(got, want) {
				t.Fatalf("%q: event %d: %q, want %q", c.text, i, told(got, e), told(want, api.OK))
			}
		}
	}
}

// P13: events that are not taken in are in no stretch and have no number.
func TestMatchesOfWhatIsTakenIn(t *testing.T) {
	wantFound(t, "aA.b", []fed{
		{"a 4", ""}, {"a 3", errEvent}, {"b 3", errEvent}, {"c 5", ""}, {"d 4", errEvent}, {"a 5 0 1", errEvent}, {"e 5", errEvent}, {"b -1", errEvent}, {"b 5", "0 2 [0]"},
		{"a 6", ""}, {"b 1000000000000001", errEvent}, {"a 6", ""}, {"b 7", "3 5 [3]"},
	})
}

// P13: every short pattern of some tokens, over a stream with every stretch of
// four a or b.
func TestMatchesOfShortPatterns(t *testing.T) {
	var stream []api.Event
	for i, kind := range "aaaabaabbababbbbaaa" {
		stream = append(stream, api.Event{At: i, Kind: int(kind - 'a')})
	}
	patterns := 0
	var try func(text string, more int)
	try = func(text string, more int) {
		if e, at := Check("00", text); e == api.OK {
			wantMatches(t, "00", text, stream)
			patterns++
		} else if at < len(text) {
			return
		}
		if more > 0 {
			for _, token := range []string{"a", "b", "(", ")", "|", "*", "+", "?", "{02}", "{12}"} {
				try(text+token, more-1)
			}
		}
	}
	try("", 6)
	if patterns < 10000 {
		t.Errorf("there were only %d patterns", patterns)
	}
}

// P13: made patterns over made streams.
func TestMatchesOfMadePatterns(t *testing.T) {
	s := &sound{dice: dice(43)}
	patterns, found, held, windows := 0, 0, 0, 0
	for i := 0; i < 40000; i++ {
		text := s.pattern()
		e, at := Check("210", text)
		if e == api.ErrLarge || e == api.ErrLong {
			continue
		}
		if e != api.OK {
			t.Fatalf("Check(%q) = %d, %d", text, e, at)
		}
		patterns++
		n := wantMatches(t, "210", text, s.events())
		found += n
		held += n * bit(len(s.kinds) > 0)
		windows += n * bit(strings.Contains(text, "@"))
	}
	if patterns < 20000 || found < 50000 || held < 20000 || windows < 10000 {
		t.Errorf("the dice made only %d patterns, %d matches, %d of such that hold, %d of such with a window", patterns, found, held, windows)
	}
}
