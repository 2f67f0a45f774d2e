package spotter

import (
	"fmt"
	"math"
	"testing"

	"spotter/api"
)

func wantEvent(t *testing.T, schema string, e api.Event, want api.Errno) {
	t.Helper()
	x := mustLoad(t, schema, wide, codeOf("Take 4, End"))
	matches, got := x.Feed(e)
	if got != want || len(matches) != bit(want == api.OK) || got != api.OK && matches != nil || x.Count() != bit(want == api.OK) || x.Live() != 0 {
		t.Errorf("%q: Feed(%+v) = %v, %d, want %d; Count %d, Live %d", schema, e, matches, got, want, x.Count(), x.Live())
	}
}

func goodOr(good bool) api.Errno {
	if good {
		return api.OK
	}
	return api.ErrEvent
}

// P10: events that are good for a schema, and others.
func TestEventsGoodOrNot(t *testing.T) {
	for _, schema := range []string{"0", "1", "2", "3", "03", "30", "012", "0123", "3210"} {
		for _, kind := range []int{math.MinInt, -1, 0, 1, 2, 3, 4, 5, math.MaxInt} {
			fields := -1
			if kind >= 0 && kind < len(schema) {
				fields = int(schema[kind] - '0')
			}
			wantEvent(t, schema, api.Event{Kind: kind}, goodOr(fields >= 0))
			for _, n := range []int{math.MinInt, -1, 1, math.MaxInt} {
				for i, e := range []api.Event{{Kind: kind, X: n}, {Kind: kind, Y: n}, {Kind: kind, Z: n}} {
					wantEvent(t, schema, e, goodOr(i < fields))
				}
				wantEvent(t, schema, api.Event{Kind: kind, X: n, Y: n, Z: n}, goodOr(fields == 3))
			}
			for _, at := range []int{math.MinInt, -1, 1, api.MaxTime - 1, api.MaxTime, api.MaxTime + 1, math.MaxInt} {
				wantEvent(t, schema, api.Event{At: at, Kind: kind}, goodOr(fields >= 0 && at >= 0 && at <= api.MaxTime))
			}
		}
	}
}

// P10: no earlier than the event last taken in; at the same time is fine.
func TestEventTimes(t *testing.T) {
	last := fmt.Sprint("a ", api.MaxTime)
	wantRun(t, "Take 4, Take 4, End", []turn{
		{"a 0", "", 1}, {"a 0", "0 1 []", 1}, {"a 5", "1 2 []", 1}, {"a 4", errEvent, 1}, {"a 0", errEvent, 1}, {"a -1", errEvent, 1}, {"a 5", "2 3 []", 1},
		{last, "3 4 []", 1}, {fmt.Sprint("a ", api.MaxTime-1), errEvent, 1}, {last, "4 5 []", 1}, {fmt.Sprint("a ", api.MaxTime+1), errEvent, 1}, {"a 5", errEvent, 1}, {last, "5 6 []", 1},
	})
}

// P10: an event that is an error leaves no trace: not in the numbers, the
// threads, the times, nor in what is held.
func TestEventsLeaveNoTrace(t *testing.T) {
	code := "Take 0, Hold 0, Take 4, Span 9, Only t > 0t, Hold 1, Split 7 2, End"
	good := []turn{{"a 3 1", "", 1}, {"b 4 0 1 2", "0 1 [0 1]", 1}, {"a 4 7", "0 2 [0 2]", 2}, {"d 12 5", "0 3 [0 3], 2 3 [2 3]", 2}, {"c 13", "2 4 [2 4]", 1}}
	wantRun(t, code, good)
	wrong := []string{"a -1", "a 20 0 1", "a 20 0 0 1", "c 20 0 0 1", "d 20 0 1", "e 20", "b 1000000000000001", "b -9223372036854775808", "a 2"}
	var turns []turn
	live := 0
	for _, good := range good {
		for _, event := range wrong {
			if event != "a 2" || live > 0 {
				turns = append(turns, turn{event, errEvent, live})
			}
		}
		live = good.live
		turns = append(turns, good)
	}
	wantRun(t, code, turns)
}
