package spotter

import (
	"fmt"
	"testing"

	"spotter/api"
)

// afterLimit: what is fed to a spotter that is spent, good events and others.
var afterLimit = []turn{
	{"a 9", errSpent, 0}, {"b 9", errSpent, 0}, {"a 0", errSpent, 0}, {"a -1", errSpent, 0}, {"e 9", errSpent, 0}, {"a 9 1 1", errSpent, 0}, {"a 9", errSpent, 0},
}

// P10: just as many threads as may wait, and one more.
func TestLimitOfThreads(t *testing.T) {
	for _, most := range []int{1, 2, 3, 100, 199, 200} {
		x := mustLoad(t, "1", api.Limits{Live: most, Found: 1}, codeOf("Take 0, Jump 0"))
		var turns []turn
		for i := range most {
			turns = append(turns, turn{"a 1", "", i + 1})
		}
		turns = append(turns, turn{"a 0", errEvent, most}, turn{"a 1", errLimit, 0})
		wantTurns(t, fmt.Sprint("Live ", most), x, append(turns, afterLimit...))
	}
}

// P10: just as many matches as there may be, and one more.
func TestLimitOfMatches(t *testing.T) {
	for _, most := range []int{1, 2, 3, 100, 199} {
		x := mustLoad(t, "1", api.Limits{Live: 200, Found: most}, codeOf("Take 0, Split 0 2, End"))
		var turns []turn
		for i := range most {
			var matches []api.Match
			for first := range i + 1 {
				matches = append(matches, api.Match{First: first, Last: i, Held: [4]int{-1, -1, -1, -1}})
			}
			turns = append(turns, turn{"a 1", told(matches, api.OK), i + 1})
		}
		turns = append(turns, turn{"a 0", errEvent, most}, turn{"a 1", errLimit, 0})
		wantTurns(t, fmt.Sprint("Found ", most), x, append(turns, afterLimit...))
	}
}

// P10: 200 matches with one event, of 200 threads that wait ahead of it, and
// one more: two by each thread at the Take of b, and one that begins with b.
func TestLimitOfMostMatches(t *testing.T) {
	const two = "Take 0, Split 0 2, Take 1, Split 4 5, Hold 0, End"
	const more = "Split 1 7, Take 0, Split 1 3, Take 1, Split 5 6, Hold 0, End, Take 1, End"
	for _, c := range []struct {
		code                    string
		stretches, found, limit int
	}{
		{two, 100, 200, 200}, {two, 100, 200, 199}, {two, 99, 198, 198}, {two, 99, 198, 197},
		{more, 100, 201, 200}, {more, 99, 199, 200}, {more, 99, 199, 199}, {more, 99, 199, 198}, {more, 0, 1, 1},
	} {
		x := mustLoad(t, "00", api.Limits{Live: 200, Found: c.limit}, codeOf(c.code))
		for range c.stretches {
			x.Feed(eventOf("a 0"))
		}
		if x.Live() != 2*c.stretches || x.Count() != c.stretches {
			t.Fatalf("%s: Live %d, Count %d", c.code, x.Live(), x.Count())
		}
		matches, e := x.Feed(eventOf("b 0"))
		if c.found > c.limit {
			if matches != nil || e != api.ErrLimit || x.Live() != 0 || x.Count() != c.stretches {
				t.Errorf("%s, %d matches: %d, %d; Live %d, Count %d", c.code, c.found, len(matches), e, x.Live(), x.Count())
			}
			wantTurns(t, c.code, x, afterLimit)
		} else if len(matches) != c.found || e != api.OK || x.Live() != 0 || x.Count() != c.stretches+1 {
			t.Errorf("%s, %d matches: %d, %d; Live %d, Count %d", c.code, c.found, len(matches), e, x.Live(), x.Count())
		}
	}
}

// P10: a limit that one event goes beyond by far.
func TestLimitFarBeyond(t *testing.T) {
	code := codeOf("Take 0, Split 2 3, Hold 0, Split 4 5, Hold 1, Split 6 7, Hold 2, Split 8 9, Hold 3, Split 10 11, End, Take 0, End")
	for _, c := range []struct {
		lim api.Limits
		e   api.Errno
	}{
		{api.Limits{Live: 16, Found: 16}, api.OK}, {api.Limits{Live: 15, Found: 16}, api.ErrLimit}, {api.Limits{Live: 16, Found: 15}, api.ErrLimit},
		{api.Limits{Live: 1, Found: 1}, api.ErrLimit}, {api.Limits{Live: 1, Found: 200}, api.ErrLimit}, {api.Limits{Live: 200, Found: 1}, api.ErrLimit}, {wide, api.OK},
	} {
		x := mustLoad(t, "0", c.lim, code)
		matches, e := x.Feed(eventOf("a 5"))
		live := 16
		if e != api.OK {
			live = 0
		}
		if e != c.e || len(matches) != live || x.Live() != live || x.Count() != bit(e == api.OK) {
			t.Errorf("%v: %d matches, %d, want %d; Live %d, Count %d", c.lim, len(matches), e, c.e, x.Live(), x.Count())
		}
		if e != api.OK {
			wantTurns(t, "far beyond", x, afterLimit)
		}
	}
}

// P10: at the least limits: what is alike counts once, what ends or begins
// anew does not count.
func TestLimitsOfOne(t *testing.T) {
	for code, turns := range map[string][]turn{
		"Split 1 3, Take 0, Jump 4, Take 0, Take 4, End":                 {{"a 0", "", 1}, {"a 0", "0 1 []", 1}, {"b 0", "1 2 []", 0}},
		"Take 0, Split 2 4, Hold 0, Jump 4, Hold 0, Take 4, End":         {{"a 0", "", 1}, {"a 0", "0 1 [0]", 1}},
		"Take 0, Split 2 3, End, Split 4 5, End, End":                    {{"a 0", "0 0 []", 0}, {"a 0", "1 1 []", 0}},
		"Take 0, Take 1, End":                                            {{"a 0", "", 1}, {"a 0", "", 1}, {"b 0", "1 2 []", 0}},
		"Split 1 3, Take 0, End, Split 4 6, Take 0, End, Take 1, End":    {{"a 0", "0 0 []", 0}, {"b 0", "1 1 []", 0}},
		"Take 4, Split 2 4, Only x > 1, Take 0, Only x < 2, Take 1, End": {{"a 0 1", "", 1}, {"a 0 5", "", 1}, {"b 0", "", 1}, {"b 0", "2 3 []", 1}},
		"Take 0, Split 2 3, Take 1, Take 1, End":                         append([]turn{{"b 0", "", 0}, {"a 0", errLimit, 0}}, afterLimit...),
		"Take 0, Split 2 3, Hold 0, End":                                 append([]turn{{"b 0", "", 0}, {"a 0", errLimit, 0}}, afterLimit...),
		"Take 0, Split 0 2, End":                                         append([]turn{{"a 0", "0 0 []", 1}, {"b 0", "", 0}, {"a 0", "2 2 []", 1}, {"a 0", errLimit, 0}}, afterLimit...),
	} {
		wantTurns(t, code, mustLoad(t, "1000", api.Limits{Live: 1, Found: 1}, codeOf(code)), turns)
	}
}
