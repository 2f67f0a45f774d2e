package spotter

import (
	"fmt"
	"testing"

	"spotter/api"
)

// The table of the document.
func TestFeedExample(t *testing.T) {
	code, _ := Compile("11", "aA .* b[x>Ax] @5")
	wantTurns(t, "the table", mustLoad(t, "11", wide, code), []turn{
		{"a 0 7", "", 2},
		{"a 2 3", "", 4},
		{"b 4 5", "1 2 [1]", 4},
		{"b 6 9", "1 3 [1]", 2},
		{"b 8 9", "", 0},
	})
}

func TestFeedTakes(t *testing.T) {
	wantRun(t, "Take 0, End", []turn{{"a 0", "0 0 []", 0}, {"b 0", "", 0}, {"c 0", "", 0}, {"d 0", "", 0}, {"a 0", "4 4 []", 0}})
	wantRun(t, "Take 3, End", []turn{{"a 0", "", 0}, {"b 0", "", 0}, {"c 0", "", 0}, {"d 0", "3 3 []", 0}})
	wantRun(t, "Take 4, End", []turn{{"a 0", "0 0 []", 0}, {"b 0", "1 1 []", 0}, {"c 0", "2 2 []", 0}, {"d 0", "3 3 []", 0}})
	wantRun(t, "Take 0, Take 1, End", []turn{{"a 0", "", 1}, {"b 0", "0 1 []", 0}, {"b 0", "", 0}, {"a 0", "", 1}, {"a 0", "", 1}, {"b 0", "4 5 []", 0}})
	// A thread that does not take the event ends; it does not wait for another.
	wantRun(t, "Take 0, Take 1, End", []turn{{"a 0", "", 1}, {"c 0", "", 0}, {"b 0", "", 0}})
	wantRun(t, "Take 4, Take 2, Take 4, End", []turn{{"a 0", "", 1}, {"c 1", "", 2}, {"c 2", "0 2 []", 2}, {"b 3", "1 3 []", 1}, {"a 4", "", 1}})
	// A kind that is not in the schema is never taken.
	x := mustLoad(t, "00", wide, codeOf("Take 3, End"))
	wantTurns(t, "Take 3", x, []turn{{"a 0", "", 0}, {"b 0", "", 0}, {"d 0", errEvent, 0}, {"c 0", errEvent, 0}})
}

// P9: threads that go round and round, all beginnings side by side.
func TestFeedRounds(t *testing.T) {
	wantRun(t, "Take 0, Split 0 2, End", []turn{
		{"a 0", "0 0 []", 1}, {"a 0", "0 1 [], 1 1 []", 2}, {"b 0", "", 0}, {"a 0", "3 3 []", 1}, {"a 9", "3 4 [], 4 4 []", 2},
	})
	wantRun(t, "Take 0, Jump 0", []turn{{"a 0", "", 1}, {"a 0", "", 2}, {"a 0", "", 3}, {"b 0", "", 0}})
	// Both ways of a Split, whichever is written first.
	for _, code := range []string{"Take 4, Split 0 2, Split 4 3, End, Take 1, End", "Take 4, Split 2 0, Split 3 4, End, Take 1, End"} {
		wantRun(t, code, []turn{{"a 0", "0 0 []", 2}, {"b 0", "0 1 [], 1 1 []", 4}, {"a 0", "0 2 [], 1 2 [], 2 2 []", 6}})
	}
	// A Jump back, and an instruction that no thread comes to.
	wantRun(t, "Jump 3, Take 1, End, Take 0, Jump 1, Take 4, End", []turn{{"b 0", "", 0}, {"a 0", "", 1}, {"b 0", "1 2 []", 0}})
}

// P9: a new thread has no event at hand until its Take.
func TestFeedNothingAtHand(t *testing.T) {
	for _, first := range []string{
		"End", "Span 9, Take 0, End", "Only 1 = 1, Take 0, End", "Only t = t, Take 0, End", "Hold 0, Take 0, End",
		"Jump 1, End", "Split 1 2, End, End", "Split 2 1, End, Hold 3, Take 4, End",
	} {
		wantRun(t, first, []turn{{"a 0 1", "", 0}, {"a 0 1", "", 0}, {"b 5", "", 0}})
	}
	// The other thread of a Split goes on.
	for _, dead := range []string{"Span 9", "Only 1 = 1", "Hold 0", "End", "Jump 4"} {
		for _, split := range []string{"Split 1 2", "Split 2 1"} {
			wantRun(t, split+", "+dead+", Take 0, End, Hold 0, Take 0, End", []turn{{"a 0 1", "0 0 []", 0}, {"b 0", "", 0}, {"a 0", "2 2 []", 0}})
		}
	}
	// Behind the Take they have the event at hand.
	wantRun(t, "Jump 1, Split 2 2, Take 0, Span 0, Only x = 1, Hold 0, End", []turn{{"a 3 1", "0 0 [0]", 0}, {"a 3 2", "", 0}, {"a 4 1", "2 2 [2]", 0}})
}

// P9: no more time than A since the first event: as much, one more, at the ends.
func TestFeedSpan(t *testing.T) {
	wantRun(t, "Take 4, Span 3, Split 0 3, End", []turn{
		{"a 1", "0 0 []", 1}, {"a 4", "0 1 [], 1 1 []", 2}, {"a 5", "1 2 [], 2 2 []", 2}, {"a 8", "2 3 [], 3 3 []", 2}, {"a 12", "4 4 []", 1},
	})
	wantRun(t, "Take 4, Take 4, Span 0, End", []turn{{"a 7", "", 1}, {"b 7", "0 1 []", 1}, {"c 8", "", 1}, {"d 8", "2 3 []", 1}})
	last := fmt.Sprint("a ", api.MaxTime)
	ahead := fmt.Sprint("Take 4, Take 4, Span ", api.MaxTime-1, ", End")
	wantRun(t, ahead, []turn{{"a 0", "", 1}, {last, "", 1}})
	wantRun(t, ahead, []turn{{"a 1", "", 1}, {last, "0 1 []", 1}})
	for _, most := range []int{api.MaxTime, api.MaxTime + 1, 1<<63 - 1} {
		wantRun(t, fmt.Sprint("Take 4, Take 4, Span ", most, ", End"), []turn{{"a 0", "", 1}, {last, "0 1 []", 1}, {last, "1 2 []", 1}})
	}
	// A Span ahead of the Take is of the event ahead.
	wantRun(t, "Take 4, Take 4, Span 2, Take 4, End", []turn{{"a 0", "", 1}, {"a 2", "", 2}, {"a 9", "0 2 []", 1}, {"a 9", "", 2}})
}

// P9: what is held, and what is held anew.
func TestFeedHolds(t *testing.T) {
	for place, want := range []string{"[0]", "[-1 0]", "[-1 -1 0]", "[-1 -1 -1 0]"} {
		wantRun(t, fmt.Sprint("Take 0, Hold ", place, ", Take 1, End"), []turn{{"a 0", "", 1}, {"b 0", "0 1 " + want, 0}})
	}
	wantRun(t, "Take 0, Hold 1, Take 0, Hold 0, Take 4, End", []turn{{"a 0", "", 1}, {"a 0", "", 2}, {"b 0", "0 2 [1 0]", 0}})
	wantRun(t, "Take 0, Hold 2, Hold 0, End", []turn{{"a 0", "0 0 [0 -1 0]", 0}, {"a 0", "1 1 [1 -1 1]", 0}})
	wantRun(t, "Take 0, Hold 2, Split 0 3, End", []turn{{"a 0", "0 0 [-1 -1 0]", 1}, {"a 0", "0 1 [-1 -1 1], 1 1 [-1 -1 1]", 2}})
	// A test reads what is held when it comes to it.
	wantRun(t, "Take 0, Hold 0, Take 0, Only 0x = 5, Hold 0, Only 0x = 6, End", []turn{{"a 0 5", "", 1}, {"a 0 6", "0 1 [1]", 1}, {"a 0 6", "", 1}, {"a 0 5", "", 1}})
	wantRun(t, "Take 4, Only 0t = t, Hold 0, End", []turn{{"a 0", "", 0}, {"a 0", "", 0}})
	wantRun(t, "Take 4, Hold 0, Only 0t = t, End", []turn{{"a 0", "0 0 [0]", 0}, {"a 3", "1 1 [1]", 0}})
	// What another thread holds is not held by this one.
	wantRun(t, "Take 4, Split 2 3, Hold 0, Only 0t = t, End", []turn{{"a 4", "0 0 [0]", 0}})
	wantRun(t, "Take 4, Split 3 2, Hold 0, Only 0t = t, End", []turn{{"a 4", "0 0 [0]", 0}})
	// Events that are long past, and have different fields.
	wantRun(t, "Take 1, Hold 3, Take 4, Take 4, Take 2, Only x = 3z, Only y = 3t, Only 3x < 3y, End", []turn{
		{"b 2 -5 0 8", "", 1}, {"b 3 7 8 9", "", 2}, {"a 4 1", "", 2}, {"c 5 8 2", "0 3 [-1 -1 -1 0]", 1}, {"c 6 9 3", "1 4 [-1 -1 -1 1]", 0},
	})
}

// P9: threads that are alike are one, and an End that several reach tells one match.
func TestFeedAlike(t *testing.T) {
	wantRun(t, "Split 1 3, Take 0, Jump 4, Take 0, Take 4, End", []turn{{"a 0", "", 1}, {"a 0", "0 1 []", 1}})
	wantRun(t, "Take 0, Split 2 4, Take 4, End, Take 4, End", []turn{{"a 0", "", 2}, {"a 0", "0 1 []", 2}})
	wantRun(t, "Take 0, Split 2 2, Split 3 3, End", []turn{{"a 0", "0 0 []", 0}})
	wantRun(t, "Take 0, Split 2 2, Take 4, Jump 2", []turn{{"a 0", "", 1}, {"a 0", "", 2}})
	// They may come to be alike in what they hold.
	wantRun(t, "Take 0, Split 2 3, Hold 0, Take 4, Hold 0, Take 4, End", []turn{{"a 0", "", 2}, {"b 0", "", 1}, {"b 0", "0 2 [1]", 0}})
	wantRun(t, "Take 0, Split 2 4, Hold 0, Hold 1, Split 5 7, Hold 1, Hold 0, Take 4, End", []turn{{"a 0", "", 2}, {"b 0", "0 1 [], 0 1 [0 0]", 0}})
	// Alike in where they stand and what they hold, but not in what they began with.
	wantRun(t, "Take 0, Split 0 2, Hold 0, Take 1, End", []turn{{"a 0", "", 2}, {"a 0", "", 4}, {"b 0", "0 2 [1], 1 2 [1]", 0}})
	// Alike in all but where they stand.
	wantRun(t, "Take 0, Split 2 3, Take 4, Take 4, End", []turn{{"a 0", "", 2}, {"b 0", "0 1 []", 1}, {"b 0", "0 2 []", 0}})
	// Ends that are not one, but tell the same.
	wantRun(t, "Take 0, Split 2 3, End, Split 4 5, End, End", []turn{{"a 0", "0 0 []", 0}})
}

// P9: the matches rise by First, then by what is held at a place, as numbers.
func TestFeedOrder(t *testing.T) {
	const many = 12
	for place := range api.MaxHolds {
		// All stretches of a that a b ends, with each a of theirs held in turn.
		code := fmt.Sprintf("Take 0, Split 0 2, Hold %d, Split 4 6, Take 0, Jump 3, Take 1, End", place)
		var turns []turn
		for i := range many {
			turns = append(turns, turn{"a 0", "", (i + 1) * (i + 3)})
		}
		var matches []api.Match
		for first := range many {
			for held := first; held < many; held++ {
				m := api.Match{First: first, Last: many, Held: [4]int{-1, -1, -1, -1}}
				m.Held[place] = held
				matches = append(matches, m)
			}
		}
		wantRun(t, code, append(turns, turn{"b 0", told(matches, api.OK), 0}))
	}
	// First goes ahead of what is held.
	wantRun(t, "Split 1 3, Take 1, End, Take 0, Hold 0, Take 1, End", []turn{{"a 0", "", 1}, {"b 0", "0 1 [0], 1 1 []", 0}})
	wantRun(t, "Split 4 1, Take 1, End, End, Take 0, Hold 0, Take 1, End", []turn{{"a 0", "", 1}, {"b 0", "0 1 [0], 1 1 []", 0}})
}

// P9: every place held or not: what is not held comes first, and place 0 goes
// ahead of the others, whichever way leads to the End first.
func TestFeedOrderOfPlaces(t *testing.T) {
	want := ""
	for mask := range 16 {
		m := api.Match{Held: [4]int{mask>>3 - 1, mask>>2&1 - 1, mask>>1&1 - 1, mask&1 - 1}}
		want += ", " + told([]api.Match{m}, api.OK)
	}
	wantRun(t, "Take 0, Split 2 3, Hold 0, Split 4 5, Hold 1, Split 6 7, Hold 2, Split 8 9, Hold 3, End", []turn{{"a 0", want[2:], 0}})
	wantRun(t, "Take 0, Split 3 2, Hold 3, Split 5 4, Hold 2, Split 7 6, Hold 1, Split 9 8, Hold 0, End", []turn{{"a 0", want[2:], 0}})
}
