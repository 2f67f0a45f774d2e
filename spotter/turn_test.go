package spotter

import (
	"fmt"
	"strconv"
	"strings"
	"testing"

	"spotter/api"
)

// Events are written as the document writes them: the kind, the time, x, y, z.
func eventOf(text string) api.Event {
	words := strings.Fields(text)
	numbers := [4]int{}
	for i, word := range words[1:] {
		numbers[i], _ = strconv.Atoi(word)
	}
	return api.Event{At: numbers[0], Kind: strings.Index("abcd", words[0]), X: numbers[1], Y: numbers[2], Z: numbers[3]}
}

// told writes an answer of Feed as the document does: "1 2 [1]" is a match of
// which -1 at the last places is left out, errors are told by their numbers.
func told(matches []api.Match, e api.Errno) string {
	if e != api.OK {
		return "error " + strconv.Itoa(int(e))
	}
	var list []string
	for _, m := range matches {
		held := m.Held[:]
		for len(held) > 0 && held[len(held)-1] == -1 {
			held = held[:len(held)-1]
		}
		list = append(list, fmt.Sprint(m.First, m.Last, held))
	}
	return strings.Join(list, ", ")
}

const (
	errEvent = "error 10"
	errLimit = "error 11"
	errSpent = "error 12"
)

// turn: an event that is fed, what is answered, and how many threads wait then.
type turn struct {
	event, answer string
	live          int
}

// wantTurns feeds a spotter. Count is to go with the events that are taken in.
func wantTurns(t *testing.T, what string, x *Spotter, turns []turn) {
	t.Helper()
	count := x.Count()
	for i, want := range turns {
		matches, e := x.Feed(eventOf(want.event))
		if e == api.OK {
			count++
		} else if matches != nil {
			t.Fatalf("%s: turn %d, %q: %v with the error %d", what, i, want.event, matches, e)
		}
		if got := told(matches, e); got != want.answer || x.Live() != want.live || x.Count() != count {
			t.Fatalf("%s: turn %d, %q: %q, Live %d, Count %d, want %q, %d, %d", what, i, want.event, got, x.Live(), x.Count(), want.answer, want.live, count)
		}
	}
}

var wide = api.Limits{Live: api.MaxLive, Found: api.MaxFound}

func mustLoad(t *testing.T, schema string, lim api.Limits, code []api.Ins) *Spotter {
	t.Helper()
	x, e := Load(schema, lim, code)
	if e != api.OK || x == nil {
		t.Fatalf("Load(%q, %v, %s) = %v, %d", schema, lim, brief(code), x, e)
	}
	if x.Live() != 0 || x.Count() != 0 {
		t.Fatalf("a new spotter has Live %d, Count %d", x.Live(), x.Count())
	}
	return x
}

// wantRun runs a program, for the schema "1321", from the beginning.
func wantRun(t *testing.T, code string, turns []turn) {
	t.Helper()
	wantTurns(t, code, mustLoad(t, "1321", wide, codeOf(code)), turns)
}
