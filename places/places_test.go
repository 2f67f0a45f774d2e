package places

import (
	"slices"
	"strings"
	"testing"

	"spotter/api"
	"spotter/pattern"
)

func show(s Set) string {
	text := ""
	for i := 0; i <= api.MaxPlaces; i++ {
		if s.Has(i) {
			text += string(rune('0' + i))
		}
	}
	return text
}

// Steps, First, then each place's Follows: by their numbers, with the end
// behind the last place.
func TestWriteOut(t *testing.T) {
	for text, want := range map[string]string{
		"a":           "0 0 1",
		"ab":          "01 0 1 2",
		"a|b":         "01 01 2 2",
		"a*":          "0 0 01",
		"a?b":         "01 01 1 2",
		"(ab)*":       "01 0 1 02",
		"(a?b?)+":     "01 01 012 012",
		"a{13}":       "000 0 13 23 3",
		"a{02}b":      "001 02 12 2 3",
		"(a?){22}b":   "001 012 12 2 3",
		"(ab|c){12}d": "0120123 02 1 356 356 4 6 6 7",
		"(a|b*){02}":  "0101 0123 234 1234 4 34",
	} {
		p, ok, _ := pattern.Read(text)
		if !ok {
			t.Fatalf("%q is no pattern", text)
		}
		list := WriteOut(p.Nodes)
		words := []string{"", show(list.First)}
		for i, step := range list.Steps {
			words[0] += string(rune('0' + step))
			words = append(words, show(list.Follows[i]))
		}
		if got := strings.Join(words, " "); got != want {
			t.Errorf("%q is %s, want %s", text, got, want)
		}
	}
}

func TestSet(t *testing.T) {
	for _, place := range []int{-1, api.MaxPlaces + 1, 64, 1 << 40} {
		if s := only(place); s != 0 || s.Has(place) || Set(-1).Has(place) {
			t.Errorf("%d is in a set", place)
		}
	}
	both := only(0) | only(api.MaxPlaces)
	if !both.Has(0) || both.Has(1) || !both.Has(api.MaxPlaces) || both.Count() != 2 || Set(0).Count() != 0 {
		t.Errorf("the set of 0 and %d is %s", api.MaxPlaces, show(both))
	}
}

func TestNoNodes(t *testing.T) {
	if list := WriteOut(nil); len(list.Steps) != 0 || list.First != 0 || !slices.Equal(list.Follows, nil) {
		t.Errorf("no nodes have places: %v", list)
	}
}
