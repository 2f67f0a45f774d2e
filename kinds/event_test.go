package kinds

import (
	"math"
	"testing"

	"spotter/api"
)

func wantGood(t *testing.T, schema string, e api.Event, want bool) {
	t.Helper()
	s, _ := Read(schema)
	if s.IsGood(e) != want {
		t.Errorf("%q: %+v is good: %v", schema, e, !want)
	}
}

func TestTimesOfGoodEvents(t *testing.T) {
	for at, want := range map[int]bool{
		math.MinInt: false, -1: false, 0: true, 1: true, api.MaxTime - 1: true, api.MaxTime: true, api.MaxTime + 1: false, math.MaxInt: false,
	} {
		wantGood(t, "0", api.Event{At: at}, want)
		wantGood(t, "0123", api.Event{At: at, Kind: 3, Z: 1}, want)
	}
}

func TestKindsOfGoodEvents(t *testing.T) {
	for i, schema := range []string{"0", "00", "000", "0000"} {
		for _, kind := range []int{math.MinInt, -1, 0, 1, 2, 3, 4, 5, math.MaxInt} {
			wantGood(t, schema, api.Event{Kind: kind}, kind >= 0 && kind <= i)
		}
	}
}

func TestFieldsOfGoodEvents(t *testing.T) {
	for _, n := range []int{math.MinInt, -1, 1, math.MaxInt} {
		for kind := 0; kind < api.MaxKinds; kind++ {
			for i, e := range []api.Event{{X: n}, {Y: n}, {Z: n}} {
				e.Kind = kind
				wantGood(t, "0123", e, i < kind)
				wantGood(t, "3210", e, i < 3-kind)
				wantGood(t, "3333", e, true)
			}
		}
	}
}

func TestValue(t *testing.T) {
	e := api.Event{At: 5, Kind: 3, X: -6, Y: 7, Z: math.MinInt}
	for field, want := range map[int]int{0: 5, 1: -6, 2: 7, 3: math.MinInt, 4: 0, -1: 0} {
		if got := Value(e, field); got != want {
			t.Errorf("Value(%d) = %d, want %d", field, got, want)
		}
	}
}
