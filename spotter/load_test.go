package spotter

import (
	"math"
	"testing"

	"spotter/api"
)

func wantNoLoad(t *testing.T, schema string, lim api.Limits, code []api.Ins, want api.Errno) {
	t.Helper()
	if x, e := Load(schema, lim, code); x != nil || e != want {
		t.Errorf("Load(%q, %v, %s) = %v, %d, want %d", schema, lim, brief(code), x, e, want)
	}
}

func TestLoadSchemas(t *testing.T) {
	for _, schema := range []string{"", "4", "/", "a", "1 ", " 1", "11111", "0000a", "\x00", "1\x00", "\xff", many("1", 1<<20)} {
		wantNoLoad(t, schema, wide, codeOf("Take 0, End"), api.ErrSchema)
	}
	for _, schema := range []string{"0", "3", "30", "012", "0123", "3333"} {
		mustLoad(t, schema, wide, codeOf("Take 0, End"))
		// What a program takes and reads need not be in the schema.
		mustLoad(t, schema, wide, codeOf("Take 3, Only z < 3z * y, End"))
	}
}

// P8: limits at 1 and 200, beside them, and far off.
func TestLoadLimits(t *testing.T) {
	may := map[int]bool{1: true, 2: true, 199: true, 200: true}
	edges := []int{math.MinInt, -200, -1, 0, 1, 2, 199, 200, 201, 1000, 1<<32 + 1, math.MaxInt}
	for _, live := range edges {
		for _, found := range edges {
			lim := api.Limits{Live: live, Found: found}
			if may[live] && may[found] {
				mustLoad(t, "1", lim, codeOf("Take 0, End"))
			} else {
				wantNoLoad(t, "1", lim, codeOf("Take 0, End"), api.ErrArg)
			}
		}
	}
}

// P7, P8: lists that are no programs.
func TestLoadPrograms(t *testing.T) {
	wantNoLoad(t, "1", wide, nil, api.ErrCode)
	wantNoLoad(t, "1", wide, []api.Ins{}, api.ErrCode)
	wantNoLoad(t, "1", wide, make([]api.Ins, api.MaxCode), api.ErrCode)
	wantNoLoad(t, "1", wide, make([]api.Ins, api.MaxCode+1), api.ErrLarge)
	for _, text := range []string{
		"Take 0", "Take 5, End", "Take -1, End", "Span -1, End", "Hold 4, End", "Hold -1, End", "Jump 1", "Jump -1", "Split 0 2, End", "End 1",
		"Take 0 1, End", "Take 0, Hold 0", "Take 0, Span 1", "Take 0, Only 1 < 2", "Jump 0, Take 7, End",
	} {
		wantNoLoad(t, "1", wide, codeOf(text), api.ErrCode)
	}
	wantNoLoad(t, "1", wide, []api.Ins{{Op: 7}, {Op: api.End}}, api.ErrCode)
	wantNoLoad(t, "1", wide, []api.Ins{{Op: api.Only, Test: api.Test{Rel: 4}}, {Op: api.End}}, api.ErrCode)
	wantNoLoad(t, "1", wide, []api.Ins{{Op: api.Take, Test: api.Test{Rel: 1}}, {Op: api.End}}, api.ErrCode)
	for _, text := range []string{"Jump 0", "Take 0, Split 1 2, End", "End, Jump 1", "Take 0, Hold 0, Jump 1"} {
		wantNoLoad(t, "1", wide, codeOf(text), api.ErrLoop)
	}
	for _, text := range []string{"End", "Take 0, Jump 0", "Split 1 1, End", "Hold 0, Take 0, End", "Take 0, End, Take 1, End"} {
		mustLoad(t, "1", wide, codeOf(text))
	}
}

// P1, P8: of several errors the one named first.
func TestLoadOrder(t *testing.T) {
	none := api.Limits{}
	long := make([]api.Ins, api.MaxCode+1)
	for _, code := range [][]api.Ins{nil, long, codeOf("Take 9, End"), codeOf("Jump 0"), codeOf("End")} {
		wantNoLoad(t, "", none, code, api.ErrSchema)
		wantNoLoad(t, "9", wide, code, api.ErrSchema)
		wantNoLoad(t, "1", none, code, api.ErrArg)
		wantNoLoad(t, "1", api.Limits{Live: 1}, code, api.ErrArg)
		wantNoLoad(t, "1", api.Limits{Found: 1}, code, api.ErrArg)
	}
	wantNoLoad(t, "1", wide, codeOf("Jump 0, Hold 4, End"), api.ErrCode)
}

// P1, P8: any numbers at all: the error of Valid, or else a spotter that takes
// any events.
func TestLoadAnyNumbers(t *testing.T) {
	d := dice(17)
	pick := func() int {
		if d.roll(5) > 0 {
			return d.roll(5)
		}
		return numbers[d.roll(len(numbers))]
	}
	term := func() api.Term { return api.Term{Of: pick(), Field: d.roll(2) * pick(), Num: d.roll(2) * pick()} }
	fine := 0
	for i := 0; i < 60000; i++ {
		code := make([]api.Ins, 1+d.roll(6))
		for k := range code {
			code[k] = api.Ins{Op: pick(), A: pick()}
			if code[k].Op == api.Split {
				code[k].B = pick()
			}
			if code[k].Op == api.Only {
				code[k] = api.Ins{Op: api.Only, Test: api.Test{Left: term(), Rel: pick(), Right: term(), Arith: pick(), More: term()}}
			}
		}
		code[len(code)-1] = api.Ins{Op: api.End, A: d.roll(4) / 3}
		lim := api.Limits{Live: pick(), Found: pick()}
		want, _ := Valid(code)
		if lim.Live < 1 || lim.Live > 200 || lim.Found < 1 || lim.Found > 200 {
			want = api.ErrArg
		}
		x, e := Load("3012", lim, code)
		if e != want || (x == nil) != (e != api.OK) {
			t.Fatalf("Load(%v, %v) = %v, %d, want %d", lim, code, x, e, want)
		}
		if e != api.OK {
			continue
		}
		fine++
		for n := d.roll(6); n > 0; n-- {
			x.Feed(api.Event{At: pick(), Kind: pick(), X: pick(), Y: pick(), Z: d.roll(2) * pick()})
			if x.Live() < 0 || x.Live() > lim.Live || x.Count() < 0 || x.Count() > 5 {
				t.Fatalf("%v: Live %d, Count %d", code, x.Live(), x.Count())
			}
		}
	}
	if fine < 1000 {
		t.Errorf("the dice made only %d programs", fine)
	}
}
