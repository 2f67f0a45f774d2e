package spotter

import (
	"slices"
	"testing"

	"spotter/api"
)

const apartCode = "Take 4, Hold 0, Split 3 7, Take 4, Only t > 0t, Hold 1, Split 3 7, End"

func apartEvents() []api.Event {
	var list []api.Event
	for i, kind := range []int{0, 1, 0, 0, 1, 1, 0} {
		list = append(list, api.Event{At: 2 * i, Kind: kind, X: i})
	}
	return list
}

// alone answers what a spotter tells, of which nothing else is touched.
func alone(t *testing.T, code []api.Ins, events []api.Event) []string {
	t.Helper()
	x := mustLoad(t, "11", wide, code)
	var list []string
	for _, e := range events {
		matches, errno := x.Feed(e)
		list = append(list, told(matches, errno))
	}
	return list
}

// P2: Load writes neither into the list nor behind it, and does not keep it.
func TestLoadLeavesItsListAlone(t *testing.T) {
	want := alone(t, codeOf(apartCode), apartEvents())
	for _, later := range []string{"Take 3, End", "Jump 0", "End, End, End, End, End, End, End, End"} {
		room := append(codeOf(apartCode), codeOf("Take 1, Split 3 4, Hold 2, End, End, End")...)
		kept := slices.Clone(room)
		code := room[:len(codeOf(apartCode))]
		x := mustLoad(t, "11", wide, code)
		for i, e := range apartEvents() {
			matches, errno := x.Feed(e)
			if got := told(matches, errno); got != want[i] {
				t.Errorf("event %d: %q, want %q", i, got, want[i])
			}
			if i == 3 {
				if !slices.Equal(room, kept) {
					t.Errorf("Load or Feed wrote into %q or behind it", apartCode)
				}
				spoil(room)
				copy(room, codeOf(later))
			}
		}
	}
	for _, text := range []string{"Take 0, Jump 0", "Jump 1, Jump 2, Jump 1", "Take 0, Hold 7, End", "Take 0"} {
		room := append(codeOf(text), codeOf("Take 1, Split 3 4, Hold 2, End")...)
		kept := slices.Clone(room)
		Load("1", wide, room[:len(codeOf(text))])
		Load("", wide, room[:len(codeOf(text))])
		if !slices.Equal(room, kept) {
			t.Errorf("Load wrote into %q or behind it", text)
		}
	}
}

// P2: what a caller writes into a list of matches, or behind it, changes no
// later answer, and no later Feed changes the list.
func TestMatchesAreFresh(t *testing.T) {
	want := alone(t, codeOf(apartCode), apartEvents())
	for _, spoils := range []bool{false, true} {
		x := mustLoad(t, "11", wide, codeOf(apartCode))
		var lists, kept [][]api.Match
		for i, e := range apartEvents() {
			matches, errno := x.Feed(e)
			if got := told(matches, errno); got != want[i] {
				t.Errorf("event %d: %q, want %q", i, got, want[i])
			}
			if spoils {
				room := matches[:cap(matches)]
				for k := range room {
					room[k] = api.Match{First: -9, Last: 99 + i, Held: [4]int{7, 7, 7, k}}
				}
				matches = room
			}
			lists = append(lists, matches)
			kept = append(kept, slices.Clone(matches))
		}
		for i := range lists {
			if !slices.Equal(lists[i], kept[i]) {
				t.Errorf("the list of event %d was changed later", i)
			}
		}
	}
}

// P2: spotters do not touch one another: of one program and of others, one
// spent, one fed more, one fed with errors.
func TestSpottersApart(t *testing.T) {
	events := apartEvents()
	codes := []string{apartCode, apartCode, "Take 0, Jump 0", "Take 0, Split 0 2, End", apartCode}
	var spotters []*Spotter
	var want [][]string
	shared := codeOf(apartCode)
	for i, text := range codes {
		lim := wide
		code := codeOf(text)
		if text == apartCode {
			code = shared
		}
		if i == 4 {
			lim = api.Limits{Live: 2, Found: 2}
		}
		spotters = append(spotters, mustLoad(t, "11", lim, code))
		want = append(want, alone(t, codeOf(text), events))
	}
	want[4] = append(slices.Clone(want[4][:1]), "0 1 [0 1], 1 1 [1]", errLimit, errSpent, errSpent, errSpent, errSpent)
	for i, e := range events {
		for k, x := range spotters {
			if k == 1 {
				x.Feed(api.Event{At: -1})
				x.Feed(api.Event{Kind: 2})
			}
			matches, errno := x.Feed(e)
			if got := told(matches, errno); got != want[k][i] {
				t.Errorf("spotter %d, event %d: %q, want %q", k, i, got, want[k][i])
			}
			for n := range matches {
				matches[n] = api.Match{}
			}
		}
	}
	for k, x := range spotters[:4] {
		if x.Count() != len(events) {
			t.Errorf("spotter %d: Count %d", k, x.Count())
		}
	}
	if x := spotters[4]; x.Count() != 2 || x.Live() != 0 {
		t.Errorf("the spent one: Count %d, Live %d", x.Count(), x.Live())
	}
}

// P2: Live and Count change nothing, and an answer hangs on the events alone.
func TestSameStreamAgain(t *testing.T) {
	want := alone(t, codeOf(apartCode), apartEvents())
	for range 3 {
		x := mustLoad(t, "11", wide, codeOf(apartCode))
		for i, e := range apartEvents() {
			live, count := x.Live(), x.Count()
			if x.Live() != live || x.Count() != count || count != i {
				t.Errorf("event %d: Live %d, Count %d", i, x.Live(), x.Count())
			}
			matches, errno := x.Feed(e)
			if got := told(matches, errno); got != want[i] {
				t.Errorf("event %d: %q, want %q", i, got, want[i])
			}
		}
	}
}
