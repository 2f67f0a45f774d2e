package spotter

import (
	"slices"
	"testing"

	"spotter/api"
)

func wantTrim(t *testing.T, code []api.Ins, want []api.Ins) {
	t.Helper()
	got, e := Trim(code)
	if e != api.OK || !slices.Equal(got, want) {
		t.Fatalf("Trim(%s) = %s, %d, want %s", brief(code), brief(got), e, brief(want))
	}
	wantValid(t, got, api.OK, 0)
	if again, e := Trim(got); e != api.OK || !slices.Equal(again, got) {
		t.Fatalf("Trim(%s) = %s, %d, though nothing is left to trim", brief(got), brief(again), e)
	}
}

func wantNoTrim(t *testing.T, code []api.Ins, want api.Errno) {
	t.Helper()
	if got, e := Trim(code); got != nil || e != want {
		t.Fatalf("Trim(%s) = %s, %d, want %d", brief(code), brief(got), e, want)
	}
}

func wantTrims(t *testing.T, trims map[string]string) {
	t.Helper()
	for text, want := range trims {
		wantTrim(t, codeOf(text), codeOf(want))
	}
}

func TestTrimExample(t *testing.T) {
	wantTrims(t, map[string]string{"Split 1 3, Take 0, End, Take 1, Jump 3": "Jump 1, Take 0, End"})
}

// P11: programs that are all on ways to an End.
func TestTrimNothing(t *testing.T) {
	for _, text := range []string{
		"End",
		"Jump 1, End",
		"Split 1 1, End",
		"Take 0, End",
		"Take 4, Span 5, Only x < 0x * 3, Hold 2, Split 0 5, End",
		"Jump 2, End, Jump 1",
		"Split 1 2, End, End",
		"Split 2 1, Jump 5, Take 0, Split 2 4, Jump 5, Take 1, Jump 7, End",
		"Split 1 3, Take 0, End, Take 1, Jump 0",
		"Take 3, Split 0 2, Take 0, Split 4 0, End",
		"Jump 3, Hold 0, End, Take 0, Jump 1",
		// Whether a thread ever comes to the End is not asked.
		"Take 0, Only 1 < 0, Take 1, Only 2 # 2, End",
		"Span 0, Only t = 0t, Hold 0, End",
	} {
		wantTrim(t, codeOf(text), codeOf(text))
	}
}

// P11: what is not reached is left out, and targets are numbered anew.
func TestTrimNotReached(t *testing.T) {
	wantTrims(t, map[string]string{
		"End, End":         "End",
		"End, Jump 0":      "End",
		"End, Take 0, End": "End",
		"Jump 2, End, End": "Jump 1, End",
		"Jump 2, Take 0, Take 1, Jump 5, Hold 3, End":                 "Jump 1, Take 1, Jump 3, End",
		"Jump 3, Take 0, Split 1 4, Take 2, End":                      "Jump 1, Take 2, End",
		"Jump 4, End, Take 3, End, Take 2, Hold 1, Jump 1":            "Jump 2, End, Take 2, Hold 1, Jump 1",
		"Take 0, Split 4 7, Take 1, Jump 0, Take 2, Jump 7, End, End": "Take 0, Split 2 4, Take 2, Jump 4, End",
		// It leads to an End and to what is reached, but nothing leads to it.
		"Jump 2, Split 2 3, Take 0, End, Split 1 3": "Jump 1, Take 0, End",
		// It is all there twice.
		"Take 0, Split 0 2, End, Take 0, Split 3 5, End": "Take 0, Split 0 2, End",
		"Jump 3, Split 0 2, End, Take 0, Split 3 5, End": "Jump 1, Take 0, Split 1 3, End",
	})
}

// P11: what is reached but leads to no End is left out, and Splits become Jumps.
func TestTrimLeadsToNoEnd(t *testing.T) {
	wantTrims(t, map[string]string{
		"Split 1 3, Take 0, Jump 1, End":                               "Jump 1, End",
		"Split 3 1, Take 0, Jump 1, End":                               "Jump 1, End",
		"Split 1 2, End, Take 0, Jump 2":                               "Jump 1, End",
		"Split 2 1, End, Take 0, Jump 2":                               "Jump 1, End",
		"Split 1 3, Take 1, Jump 1, Take 0, End":                       "Jump 1, Take 0, End",
		"Take 0, Split 2 4, Take 1, Jump 2, Hold 3, End":               "Take 0, Jump 2, Hold 3, End",
		"Take 0, Split 4 2, Take 1, Jump 2, Hold 3, End":               "Take 0, Jump 2, Hold 3, End",
		"Split 1 5, Split 2 5, Split 3 5, Take 0, End, Take 1, Jump 5": "Jump 1, Jump 2, Jump 3, Take 0, End",
		"Take 0, Split 4 2, Split 0 3, End, Hold 0, Take 1, Jump 5":    "Take 0, Jump 2, Split 0 3, End",
		"Take 0, Split 2 5, Take 1, Split 2 4, Jump 2, Take 2, End":    "Take 0, Jump 2, Take 2, End",
	})
}

// P11: both targets lead to the same, or are the same.
func TestTrimAlikeTargets(t *testing.T) {
	wantTrims(t, map[string]string{
		"Split 2 2, End, End":                                                        "Split 1 1, End",
		"Take 0, Split 3 3, Take 1, End":                                             "Take 0, Split 2 2, End",
		"Split 1 2, Jump 4, Jump 4, End, End":                                        "Split 1 2, Jump 3, Jump 3, End",
		"Split 1 3, Take 0, Jump 5, Take 0, Jump 5, End":                             "Split 1 3, Take 0, Jump 5, Take 0, Jump 5, End",
		"Jump 3, Take 0, Jump 1, Split 4 4, Take 2, Hold 1, Split 1 7, End":          "Jump 1, Split 2 2, Take 2, Hold 1, Jump 5, End",
		"Split 1 3, Split 4 6, End, Split 6 4, Take 0, Jump 4, Take 1, Jump 8, End":  "Split 1 2, Jump 3, Jump 3, Take 1, Jump 5, End",
		"Split 3 1, Split 2 2, Split 4 4, Split 4 4, Split 7 5, Take 0, Jump 5, End": "Split 3 1, Split 2 2, Split 4 4, Split 4 4, Jump 5, End",
	})
}

// P11: ErrNever: there is no End, or none is reached.
func TestTrimNever(t *testing.T) {
	for _, text := range []string{
		"Take 0, Jump 0",
		"Take 0, Jump 0, End",
		"Take 0, Split 0 0",
		"Jump 2, End, Take 0, Jump 2",
		"Take 0, Split 0 2, Take 1, Jump 2",
		"Take 0, Split 2 0, Split 3 4, Jump 5, Jump 5, Take 1, Split 5 5",
		"Split 3 1, Take 0, Jump 1, Take 1, Jump 3, End, Jump 5, Split 0 5",
		"Jump 1, Take 4, Span 1, Only 1 < 2, Hold 0, Jump 0, End, End",
	} {
		wantNoTrim(t, codeOf(text), api.ErrNever)
	}
}

// P11: the error of Valid, each of them, and no list with it.
func TestTrimErrors(t *testing.T) {
	wantNoTrim(t, nil, api.ErrCode)
	wantNoTrim(t, []api.Ins{}, api.ErrCode)
	wantNoTrim(t, make([]api.Ins, api.MaxCode), api.ErrCode)
	for _, text := range []string{
		"Take 0", "Take 5, End", "Take -1, End", "Span -1, End", "Hold 4, End", "Hold -1, End", "Jump 1", "Jump -1", "Split 0 2, End", "Split -1 1, End",
		"End 1", "Take 0 1, End", "Take 0, Hold 0", "End, Take 0", "End, Hold 9, End", "Jump 2, Take 7, End", "End, Jump 2",
	} {
		wantNoTrim(t, codeOf(text), api.ErrCode)
	}
	wantNoTrim(t, []api.Ins{{Op: 7}, {Op: api.End}}, api.ErrCode)
	wantNoTrim(t, []api.Ins{{Op: api.End}, {Op: -1}}, api.ErrCode)
	wantNoTrim(t, []api.Ins{{Op: api.Only, Test: api.Test{Rel: 4}}, {Op: api.End}}, api.ErrCode)
	wantNoTrim(t, []api.Ins{{Op: api.End, Test: api.Test{Rel: 1}}}, api.ErrCode)
	// A round without a Take is an error where nothing leads to it too.
	for _, text := range []string{"Jump 0", "Take 0, Split 1 2, End", "End, Jump 1", "Take 0, Hold 0, Jump 1", "Take 0, End, Split 3 1, Jump 2", "Split 1 2, End, Jump 2"} {
		wantNoTrim(t, codeOf(text), api.ErrLoop)
	}
}

// P1, P11: of several errors the one named first.
func TestTrimOrder(t *testing.T) {
	long := make([]api.Ins, api.MaxCode+1)
	wantNoTrim(t, long, api.ErrLarge)
	long[0] = api.Ins{Op: -1}
	wantNoTrim(t, long, api.ErrLarge)
	long[0] = api.Ins{Op: api.Jump}
	long[api.MaxCode].Op = api.End
	wantNoTrim(t, long, api.ErrLarge)
	for i := range long {
		long[i] = api.Ins{Op: api.End}
	}
	wantNoTrim(t, long, api.ErrLarge)
	wantNoTrim(t, codeOf("Jump 0, Hold 4, End"), api.ErrCode)
	wantNoTrim(t, codeOf("Take 0, Jump 0, Take 9, End"), api.ErrCode)
	wantNoTrim(t, codeOf("Take 0, Jump 0, Take 0"), api.ErrCode)
	wantNoTrim(t, codeOf("Take 0, Jump 0, Jump 2, End"), api.ErrLoop)
	wantNoTrim(t, codeOf("Jump 0, End"), api.ErrLoop)
}

// P11: as many instructions as there may be.
func TestTrimLong(t *testing.T) {
	last := api.MaxCode - 1
	code := make([]api.Ins, api.MaxCode)
	code[last] = api.Ins{Op: api.End}
	wantTrim(t, code, code)
	code[last] = api.Ins{Op: api.Jump, A: 0}
	wantNoTrim(t, code, api.ErrNever)
	code[0] = api.Ins{Op: api.End}
	wantTrim(t, code, codeOf("End"))
	code[0] = api.Ins{Op: api.Jump, A: last}
	code[last] = api.Ins{Op: api.End}
	wantTrim(t, code, codeOf("Jump 1, End"))
	// From the last one back to the first, the End, by Jumps.
	code[0] = api.Ins{Op: api.Jump, A: last}
	code[1] = api.Ins{Op: api.End}
	for i := 2; i <= last; i++ {
		code[i] = api.Ins{Op: api.Jump, A: i - 1}
	}
	wantTrim(t, code, code)
	code[1] = api.Ins{Op: api.Take}
	code[2] = api.Ins{Op: api.Split, A: 1, B: 1}
	wantNoTrim(t, code, api.ErrNever)
	// Very many ways.
	for i := range code {
		code[i] = api.Ins{Op: api.Split, A: min(i+1, last), B: min(i+2, last)}
	}
	code[last] = api.Ins{Op: api.End}
	wantTrim(t, code, code)
	wantTrim(t, ways(4), ways(4))
}

// P11: every second instruction is left out: it leads to a round for ever.
func TestTrimHalf(t *testing.T) {
	round := api.MaxCode - 2
	var code, want []api.Ins
	for i := 0; i < round; i += 2 {
		split := api.Ins{Op: api.Split, A: i + 1, B: i + 2}
		if i%4 == 0 {
			split = api.Ins{Op: api.Split, A: i + 2, B: i + 1}
		}
		code = append(code, split, api.Ins{Op: api.Jump, A: round})
		want = append(want, api.Ins{Op: api.Jump, A: i/2 + 1})
	}
	code[round-2] = api.Ins{Op: api.End}
	want[round/2-1] = api.Ins{Op: api.End}
	wantTrim(t, append(code, api.Ins{Op: api.Take}, api.Ins{Op: api.Jump, A: round}), want)
}

// trimmed goes by all ways, longer and longer ones; it answers nil if none
// leads from the first instruction to an End.
func trimmed(code []api.Ins) []api.Ins {
	n := len(code)
	way := make([][]bool, n)
	for i, x := range code {
		way[i] = make([]bool, n)
		way[i][i] = true
		switch x.Op {
		case api.End:
		case api.Jump:
			way[i][x.A] = true
		case api.Split:
			way[i][x.A] = true
			way[i][x.B] = true
		default:
			way[i][i+1] = true
		}
	}
	for k := range n {
		for i := range n {
			for j := range n {
				way[i][j] = way[i][j] || way[i][k] && way[k][j]
			}
		}
	}
	isKept := func(at int) bool {
		for end, x := range code {
			if x.Op == api.End && way[0][at] && way[at][end] {
				return true
			}
		}
		return false
	}
	number := func(at int) int {
		count := 0
		for i := range at {
			count += bit(isKept(i))
		}
		return count
	}
	var list []api.Ins
	for i, x := range code {
		if !isKept(i) {
			continue
		}
		switch {
		case x.Op == api.Jump || x.Op == api.Split && !isKept(x.B):
			x = api.Ins{Op: api.Jump, A: number(x.A)}
		case x.Op == api.Split && !isKept(x.A):
			x = api.Ins{Op: api.Jump, A: number(x.B)}
		case x.Op == api.Split:
			x = api.Ins{Op: api.Split, A: number(x.A), B: number(x.B)}
		}
		list = append(list, x)
	}
	return list
}

// far answers a program of which the targets lie anywhere.
func (p *programs) far() []api.Ins {
	for {
		code := make([]api.Ins, 1+p.roll(14))
		for i := range code {
			code[i] = api.Ins{Op: []int{api.Take, api.Take, api.Take, api.Hold, api.Jump, api.Split, api.Split, api.End}[p.roll(8)]}
			if code[i].Op == api.Jump || code[i].Op == api.Split {
				code[i].A = p.roll(len(code))
			}
			if code[i].Op == api.Split {
				code[i].B = p.roll(len(code))
			}
		}
		if e, _ := Valid(code); e == api.OK {
			return code
		}
	}
}

// P11: made programs.
func TestTrimMadePrograms(t *testing.T) {
	p := &programs{dice(29)}
	never, whole, jumps, gone := 0, 0, 0, 0
	splits := func(code []api.Ins) (count int) {
		for _, x := range code {
			count += bit(x.Op == api.Split)
		}
		return count
	}
	for i := 0; i < 40000; i++ {
		code := p.far()
		if i%2 == 0 {
			code = p.program()
		}
		want := trimmed(code)
		if want == nil {
			wantNoTrim(t, code, api.ErrNever)
			never++
			continue
		}
		wantTrim(t, code, want)
		whole += bit(len(want) == len(code))
		gone += bit(len(want) < len(code))
		jumps += bit(len(want) > 3 && splits(want) > 0 && splits(want) < splits(code))
	}
	if never < 2000 || whole < 2000 || gone < 2000 || jumps < 1000 {
		t.Errorf("the dice made %d programs that never end, %d whole ones, %d others, %d with fewer Splits", never, whole, gone, jumps)
	}
}

// P11: a program that is trimmed finds the same, with as many threads or fewer.
func TestTrimFindsTheSame(t *testing.T) {
	p := &programs{dice(31)}
	found, fewer := 0, 0
	for i := 0; i < 20000; i++ {
		code := p.program()
		if i%2 == 0 {
			code = p.far()
		}
		less, e := Trim(code)
		if e != api.OK {
			continue
		}
		x, y := mustLoad(t, "201", wide, code), mustLoad(t, "201", wide, less)
		for k, e := range p.events(12) {
			want, wantErrno := x.Feed(e)
			got, gotErrno := y.Feed(e)
			if wantErrno == api.ErrLimit {
				break
			}
			if gotErrno != wantErrno || !slices.Equal(got, want) || y.Live() > x.Live() {
				t.Fatalf("%s, trimmed: event %d: %q, Live %d; as it was: %q, %d", brief(code), k, told(got, gotErrno), y.Live(), told(want, wantErrno), x.Live())
			}
			found += len(got)
			fewer += bit(y.Live() < x.Live())
		}
	}
	if found < 5000 || fewer < 200 {
		t.Errorf("the dice had only %d matches, and fewer threads %d times", found, fewer)
	}
}

// P6, P11: all places of a pattern lie on ways through it.
func TestTrimPatterns(t *testing.T) {
	d := dice(37)
	patterns := 0
	for i := 0; i < 20000; i++ {
		m := &maker{dice: dice(d.roll(1 << 30)), plain: i%3 == 0, careful: i%3 == 1}
		m.whole()
		if code, e := Compile("21", m.text); e == api.OK {
			wantTrim(t, code, code)
			patterns++
		}
	}
	if patterns < 2000 {
		t.Errorf("the dice made only %d patterns", patterns)
	}
}

// P1, P11: any numbers at all: the error of Valid, or else ErrNever, or else a program.
func TestTrimAnyNumbers(t *testing.T) {
	d := dice(41)
	pick := func() int {
		if d.roll(4) > 0 {
			return d.roll(5)
		}
		return numbers[d.roll(len(numbers))]
	}
	var seen [api.ErrSpent + 1]int
	for i := 0; i < 60000; i++ {
		code := make([]api.Ins, d.roll(7))
		for k := range code {
			code[k] = api.Ins{Op: d.roll(7), A: d.roll(3) / 2 * pick()}
			if code[k].Op == api.Split || d.roll(9) == 0 {
				code[k].B = pick()
			}
			if d.roll(20) == 0 {
				code[k] = api.Ins{Op: pick(), A: pick(), B: pick(), Test: api.Test{Rel: pick()}}
			}
		}
		want, _ := Valid(code)
		if want == api.OK && trimmed(code) == nil {
			want = api.ErrNever
		}
		seen[want]++
		if want == api.OK {
			wantTrim(t, code, trimmed(code))
		} else {
			wantNoTrim(t, code, want)
		}
	}
	for _, e := range []api.Errno{api.OK, api.ErrCode, api.ErrLoop, api.ErrNever} {
		if seen[e] < 300 {
			t.Errorf("the dice had the answer %d only %d times", e, seen[e])
		}
	}
}

// P2: nothing is written into the list that is handed in, nor into its spare
// room, and what comes out is a list of its own.
func TestTrimLists(t *testing.T) {
	for _, text := range []string{
		"End", "Take 0, Split 0 2, End", "Split 1 3, Take 0, End, Take 1, Jump 3", "Jump 2, End, End", "Take 0, Jump 0", "Jump 0", "Take 9, End", "Take 0", "Jump 3, Take 0, End, Split 1 1",
	} {
		count := len(codeOf(text))
		room := append(codeOf(text), codeOf("Take 1, Split 3 4, Hold 2, End, End, End")...)
		kept := slices.Clone(room)
		first, e := Trim(room[:count])
		want := slices.Clone(first)
		if !slices.Equal(room, kept) {
			t.Errorf("Trim wrote into %q or behind it", text)
		}
		second, again := Trim(room[:count])
		if again != e || !slices.Equal(second, first) {
			t.Errorf("Trim(%q) = %v, then %v", text, first, second)
		}
		// Whatever is written into one of the three lists is not seen in the others.
		spoil(first)
		if !slices.Equal(second, want) || !slices.Equal(room, kept) {
			t.Errorf("Trim(%q): its lists share room", text)
		}
		third, _ := Trim(room[:count])
		spoil(room)
		if !slices.Equal(second, want) || !slices.Equal(third, want) {
			t.Errorf("Trim(%q) kept what it was given", text)
		}
		if fourth, e := Trim(room[:count]); e == api.OK || fourth != nil {
			t.Errorf("Trim of spoilt instructions: %v, %d", fourth, e)
		}
	}
}
