package spotter

import (
	"math"
	"slices"
	"testing"

	"spotter/api"
)

func wantNoNew(t *testing.T, schema string, lim api.Limits, text string, want api.Errno) {
	t.Helper()
	if x, e := New(schema, lim, text); x != nil || e != want {
		t.Errorf("New(%q, %v, %.60q) = %v, %d, want %d", schema, lim, text, x, e, want)
	}
}

// P1, P12: the error of Check, in its order, whatever the limits; then ErrArg.
func TestNewErrors(t *testing.T) {
	for _, c := range []answer{
		{"", many("!", 121), api.ErrLong, 0},
		{"9", many("a", 121), api.ErrLong, 0},
		{"1", "a" + many(" ", 120), api.ErrLong, 0},
		{"1", many("(", 1<<20), api.ErrLong, 0},
		{"", "", api.ErrSchema, 0},
		{"", "a", api.ErrSchema, 0},
		{"4", "a)", api.ErrSchema, 0},
		{"1 ", "b", api.ErrSchema, 0},
		{"11111", "a{99}a{99}a{99}", api.ErrSchema, 0},
		{many("1", 1<<20), "a", api.ErrSchema, 0},
		{"1", "", api.ErrSyntax, 0},
		{"1", " ", api.ErrSyntax, 0},
		{"1", "x", api.ErrSyntax, 0},
		{"1", "a\x00", api.ErrSyntax, 0},
		{"1", "b)", api.ErrSyntax, 0},
		{"1", "a{32}", api.ErrSyntax, 0},
		{"1", "a@", api.ErrSyntax, 0},
		{"1", many("a", 30) + "!", api.ErrSyntax, 0},
		{"1", many("(", 9) + "a" + many(")", 9), api.ErrSyntax, 0},
		{"1", "b", api.ErrType, 0},
		{"1", "aA*", api.ErrType, 0},
		{"1", "aA aA", api.ErrType, 0},
		{"11", "aA|bA", api.ErrType, 0},
		{"1", "a[y<1]", api.ErrType, 0},
		{"1", "aA[x<Ax]", api.ErrType, 0},
		{"11", "(aA|b)b[x=Ax]", api.ErrType, 0},
		{"1", "aA a[Ay=1]", api.ErrType, 0},
		{"1", "b{99}b{99}b{99}", api.ErrType, 0},
		{"1", "a{99}a{99}a{99}", api.ErrLarge, 0},
		{"1", "aAaBaCaDaE", api.ErrLarge, 0},
		{"1", "a[x=1&x=1&x=1&x=1&x=1]", api.ErrLarge, 0},
		{"1", "a", api.ErrArg, 0},
	} {
		for _, lim := range []api.Limits{{}, {Live: 1}, {Found: 1}, {Live: -1, Found: 201}, {Live: 200, Found: 201}, {Live: 201, Found: 200}} {
			wantNoNew(t, c.schema, lim, c.text, c.e)
		}
		if c.e != api.ErrArg {
			wantNoNew(t, c.schema, wide, c.text, c.e)
			wantNoNew(t, c.schema, api.Limits{Live: 1, Found: 1}, c.text, c.e)
		}
	}
}

// P8, P12: limits at 1 and 200, beside them, and far off.
func TestNewLimits(t *testing.T) {
	may := map[int]bool{1: true, 2: true, 199: true, 200: true}
	edges := []int{math.MinInt, -200, -1, 0, 1, 2, 199, 200, 201, 1000, 1<<32 + 1, math.MaxInt}
	for _, live := range edges {
		for _, found := range edges {
			lim := api.Limits{Live: live, Found: found}
			if may[live] && may[found] {
				mustNew(t, "1", lim, "aA .*")
			} else {
				wantNoNew(t, "1", lim, "aA .*", api.ErrArg)
			}
		}
	}
}

// P10, P12: the limits hold.
func TestNewMeetsLimits(t *testing.T) {
	for _, most := range []int{1, 2, 99, 199} {
		x := mustNew(t, "1", api.Limits{Live: most, Found: 200}, "a+")
		y := mustNew(t, "1", api.Limits{Live: 200, Found: most}, "a+")
		for i := range most {
			one, e := x.Feed(eventOf("a 1"))
			other, errno := y.Feed(eventOf("a 1"))
			if e != api.OK || errno != api.OK || len(one) != i+1 || len(other) != i+1 || x.Live() != i+1 || y.Live() != i+1 {
				t.Fatalf("%d: event %d: %d, %d matches, %d, %d, Live %d, %d", most, i, len(one), len(other), e, errno, x.Live(), y.Live())
			}
		}
		turns := append([]turn{{"a 0", errEvent, most}, {"b 1", errEvent, most}, {"a 1", errLimit, 0}}, afterLimit...)
		wantTurns(t, "a+", x, turns)
		wantTurns(t, "a+", y, turns)
	}
	wantTurns(t, "aA(b|.)c", mustNew(t, "111", api.Limits{Live: 2, Found: 1}, "aA(b|.)c"), []turn{
		{"b 0", "", 0}, {"a 0", "", 2}, {"b 0", "", 1}, {"c 0", "1 3 [1]", 0}, {"a 0", "", 2}, {"a 0", errLimit, 0}, {"a 0", errSpent, 0},
	})
}

// P12: it answers as the one that Load gives for Compile's program, with errors
// and limits too.
func TestNewLikeLoad(t *testing.T) {
	s := &sound{dice: dice(53)}
	var seen [api.ErrSpent + 1]int
	for i := 0; i < 20000; i++ {
		text := s.pattern()
		lim := api.Limits{Live: 1 + s.roll(12), Found: 1 + s.roll(4)}
		code, e := Compile("210", text)
		if e != api.OK {
			wantNoNew(t, "210", lim, text, e)
			continue
		}
		x, y := mustNew(t, "210", lim, text), mustLoad(t, "210", lim, code)
		for k, event := range s.events() {
			got, gotErrno := x.Feed(event)
			want, wantErrno := y.Feed(event)
			if gotErrno != wantErrno || !slices.Equal(got, want) || x.Live() != y.Live() || x.Count() != y.Count() {
				t.Fatalf("%q, %v: event %d: %q, Live %d, Count %d, want %q, %d, %d", text, lim, k,
					told(got, gotErrno), x.Live(), x.Count(), told(want, wantErrno), y.Live(), y.Count())
			}
			seen[gotErrno]++
		}
	}
	for _, e := range []api.Errno{api.OK, api.ErrEvent, api.ErrLimit, api.ErrSpent} {
		if seen[e] < 1000 {
			t.Errorf("the dice had the answer %d only %d times", e, seen[e])
		}
	}
}

// P1, P12: any bytes and numbers: the error of Check, or ErrArg, or a spotter.
func TestNewAnyText(t *testing.T) {
	d := dice(59)
	fine := 0
	for i := 0; i < 60000; i++ {
		schema := d.text("0123", 4)
		text := d.text("aaaab.cAB[]x<3=&()|*+?{12} @", 14)
		if i%3 == 0 {
			schema = d.text("0123/4 a\x00", 6)
			text = d.text("abcd.ABZ[]()|&*+?{}<>=#-@txyz0129 \x00\xff!", 130)
		}
		lim := api.Limits{Live: 1 + d.roll(200), Found: 1 + d.roll(200)}
		if d.roll(3) == 0 {
			lim.Live = numbers[d.roll(len(numbers))]
		}
		want, _ := Check(schema, text)
		if want == api.OK && (lim.Live < 1 || lim.Live > 200) {
			want = api.ErrArg
		}
		x, e := New(schema, lim, text)
		if e != want || (x == nil) != (e != api.OK) {
			t.Fatalf("New(%q, %v, %q) = %v, %d, want %d", schema, lim, text, x, e, want)
		}
		if e != api.OK {
			continue
		}
		fine++
		for n := d.roll(6); n > 0; n-- {
			x.Feed(api.Event{At: d.roll(9), Kind: numbers[d.roll(len(numbers))], X: d.roll(2) * numbers[d.roll(len(numbers))]})
			if x.Live() < 0 || x.Live() > lim.Live || x.Count() < 0 || x.Count() > 5 {
				t.Fatalf("%q: Live %d, Count %d", text, x.Live(), x.Count())
			}
		}
	}
	if fine < 500 {
		t.Errorf("the dice made only %d patterns", fine)
	}
}

// P2: spotters of one pattern and of others do not touch one another, nor does
// what a caller writes into their lists.
func TestNewApart(t *testing.T) {
	texts := []string{"aA .* bB[x>Ax] @9", "aA .* bB[x>Ax] @9", "(a|b)+", "bB a?", "aA .* bB[x>Ax] @9", ".{13}"}
	var events []api.Event
	for i, kind := range []int{0, 1, 0, 0, 1, 1, 0, 1} {
		events = append(events, api.Event{At: 2 * i, Kind: kind, X: i})
	}
	var spotters []*Spotter
	var want [][]string
	for i, text := range texts {
		code, _ := Compile("11", text)
		want = append(want, alone(t, code, events))
		lim := wide
		if i == 4 {
			lim.Found = 1
		}
		spotters = append(spotters, mustNew(t, "11", lim, text))
	}
	want[4] = []string{"", "0 1 [0 1]", "", "", errLimit, errSpent, errSpent, errSpent}
	for i, e := range events {
		for k, x := range spotters {
			if k == 1 {
				x.Feed(api.Event{At: -1})
				x.Feed(api.Event{Kind: 2})
			}
			matches, errno := x.Feed(e)
			if got := told(matches, errno); got != want[k][i] {
				t.Errorf("spotter %d, event %d: %q, want %q", k, i, got, want[k][i])
			}
			matches = matches[:cap(matches)]
			for n := range matches {
				matches[n] = api.Match{First: -9, Last: 99, Held: [4]int{7, 7, 7, 7}}
			}
		}
		// One more that begins anew each time, and other calls between.
		mustNew(t, "11", wide, texts[i%len(texts)]).Feed(e)
		New("11", wide, "aA bA")
	}
	if x := spotters[4]; x.Count() != 4 || x.Live() != 0 {
		t.Errorf("the spent one: Count %d, Live %d", x.Count(), x.Live())
	}
}
