package spotter

import (
	"math"
	"math/big"
	"testing"

	"spotter/api"
)

// sides: numbers at which sums, differences and products come to the ends of 64 bits.
var sides = []int{
	math.MinInt, math.MinInt + 1, -1<<62 - 1, -1 << 62, -3037000500, -1 << 32, -1 << 31, -2, -1, 0,
	1, 2, 1 << 31, 1 << 32, 3037000499, 3037000500, 1<<62 - 1, 1 << 62, math.MaxInt - 1, math.MaxInt,
}

// isSo goes by the words of the document, with numbers of any size.
func isSo(left int, rel int, right int, arith int, more int) bool {
	l, r, m := big.NewInt(int64(left)), big.NewInt(int64(right)), big.NewInt(int64(more))
	switch arith {
	case api.Plus:
		r.Add(r, m)
	case api.Minus:
		r.Sub(r, m)
	case api.Times:
		r.Mul(r, m)
	}
	if !r.IsInt64() {
		return false
	}
	order := l.Cmp(r)
	return []bool{order < 0, order > 0, order == 0, order != 0}[rel]
}

// wantSo feeds an event to a spotter of which the program is a Take, a test and an End.
func wantSo(t *testing.T, x *Spotter, test api.Test, e api.Event, want bool) {
	t.Helper()
	matches, errno := x.Feed(e)
	if errno != api.OK || len(matches) != bit(want) {
		t.Errorf("%+v at %+v: %v, %d, want %v", test, e, matches, errno, want)
	}
}

func ownField(field int) api.Term { return api.Term{Of: api.OfEvent, Field: field} }

func tested(t *testing.T, test api.Test) *Spotter {
	t.Helper()
	return mustLoad(t, "3", wide, []api.Ins{{Op: api.Take}, {Op: api.Only, Test: test}, {Op: api.End}})
}

func TestSoAtTheEnds(t *testing.T) {
	for rel := api.Below; rel <= api.Other; rel++ {
		for arith := api.Plus; arith <= api.Times; arith++ {
			test := api.Test{Left: ownField(1), Rel: rel, Right: ownField(2), Arith: arith, More: ownField(3)}
			x := tested(t, test)
			for _, left := range sides {
				for _, right := range sides {
					for _, more := range sides {
						wantSo(t, x, test, api.Event{X: left, Y: right, Z: more}, isSo(left, rel, right, arith, more))
					}
				}
			}
		}
	}
}

func TestSoAlone(t *testing.T) {
	for rel := api.Below; rel <= api.Other; rel++ {
		test := api.Test{Left: ownField(2), Rel: rel, Right: ownField(1)}
		x := tested(t, test)
		for _, left := range sides {
			for _, right := range sides {
				wantSo(t, x, test, api.Event{X: right, Y: left, Z: 1}, isSo(left, rel, right, api.Alone, 0))
			}
		}
	}
}

// The same numbers in the program itself.
func TestSoNumbers(t *testing.T) {
	for _, left := range sides {
		for _, right := range sides {
			for arith := api.Alone; arith <= api.Times; arith++ {
				test := api.Test{Left: api.Term{Num: left}, Rel: api.Above, Right: api.Term{Num: right}, Arith: arith}
				if arith != api.Alone {
					test.More = api.Term{Num: left}
				}
				wantSo(t, tested(t, test), test, api.Event{X: 1}, isSo(left, api.Above, right, arith, left))
			}
		}
	}
}

// Just beyond the ends a test is not so, whatever the relation.
func TestSoBeyond(t *testing.T) {
	for rel := api.Below; rel <= api.Other; rel++ {
		for _, c := range []struct{ arith, right, more int }{
			{api.Plus, math.MaxInt, 1}, {api.Plus, 1, math.MaxInt}, {api.Plus, math.MinInt, -1}, {api.Plus, -1, math.MinInt}, {api.Plus, math.MinInt, math.MinInt}, {api.Plus, math.MaxInt, math.MaxInt},
			{api.Minus, math.MaxInt, -1}, {api.Minus, math.MinInt, 1}, {api.Minus, 0, math.MinInt}, {api.Minus, -2, math.MaxInt}, {api.Minus, math.MaxInt, math.MinInt}, {api.Minus, math.MinInt, math.MaxInt},
			{api.Times, math.MinInt, -1}, {api.Times, -1, math.MinInt}, {api.Times, 1 << 31, 1 << 32}, {api.Times, 1 << 62, 2}, {api.Times, 1 << 62, 4}, {api.Times, 1 << 32, 1 << 32},
			{api.Times, math.MinInt, math.MinInt}, {api.Times, math.MaxInt, math.MaxInt}, {api.Times, math.MaxInt, math.MinInt}, {api.Times, 3037000500, 3037000500}, {api.Times, -1<<62 - 1, 2},
		} {
			test := api.Test{Left: ownField(1), Rel: rel, Right: ownField(2), Arith: c.arith, More: ownField(3)}
			x := tested(t, test)
			for _, left := range sides {
				wantSo(t, x, test, api.Event{X: left, Y: c.right, Z: c.more}, false)
			}
		}
	}
}

// A term of an event that is not held is no number, on whichever side.
func TestSoNotHeld(t *testing.T) {
	for place := range api.MaxHolds {
		for field := api.FieldT; field <= api.FieldZ; field++ {
			term := api.Term{Of: api.OfHeld + place, Field: field}
			for rel := api.Below; rel <= api.Other; rel++ {
				for arith := api.Alone; arith <= api.Times; arith++ {
					tests := []api.Test{{Left: term, Rel: rel, Arith: arith}, {Rel: rel, Right: term, Arith: arith}, {Left: term, Rel: rel, Right: term, Arith: arith}}
					if arith != api.Alone {
						tests = append(tests, api.Test{Rel: rel, Arith: arith, More: term}, api.Test{Left: api.Term{Num: 1}, Rel: rel, Arith: arith, More: term})
					}
					for _, test := range tests {
						wantSo(t, tested(t, test), test, api.Event{At: 5, X: 5}, false)
						wantSo(t, tested(t, test), test, api.Event{}, false)
					}
				}
			}
		}
	}
}

// Every field of the event at hand and of one that is held, at every place and
// on every side.
func TestSoFields(t *testing.T) {
	held := api.Event{At: 3, Kind: 0, X: -5, Y: math.MaxInt, Z: math.MinInt}
	hand := api.Event{At: 8, Kind: 1, X: 7}
	value := func(e api.Event, field int) int { return []int{e.At, e.X, e.Y, e.Z}[field] }
	for place := range api.MaxHolds {
		for field := api.FieldT; field <= api.FieldZ; field++ {
			for _, c := range []struct {
				term  api.Term
				value int
			}{{api.Term{Of: api.OfHeld + place, Field: field}, value(held, field)}, {ownField(field), value(hand, field)}} {
				number := api.Term{Num: c.value}
				for _, test := range []api.Test{
					{Left: c.term, Rel: api.Same, Right: number}, {Left: number, Rel: api.Same, Right: c.term},
					{Left: c.term, Rel: api.Same, Right: c.term, Arith: api.Plus}, {Left: number, Rel: api.Same, Arith: api.Plus, More: c.term},
					{Left: c.term, Rel: api.Same, Right: api.Term{Num: 1}, Arith: api.Times, More: number},
				} {
					other := test
					other.Rel = api.Other
					for i, code := range [][]api.Ins{{{Op: api.Only, Test: other}}, {{Op: api.Only, Test: test}}} {
						x := mustLoad(t, "31", wide, append([]api.Ins{{}, {Op: api.Hold, A: place}, {A: 1}}, append(code, api.Ins{Op: api.End})...))
						x.Feed(held)
						wantSo(t, x, code[0].Test, hand, i == 1)
					}
				}
			}
		}
	}
}
