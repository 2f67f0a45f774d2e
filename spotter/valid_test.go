package spotter

import (
	"math"
	"slices"
	"testing"

	"spotter/api"
)

func TestValidExamples(t *testing.T) {
	wantValid(t, codeOf("Jump 0"), api.ErrLoop, 0)
	wantValid(t, codeOf("Take 0"), api.ErrCode, 0)
}

// P7: none, as many as may be, and one more.
func TestValidLength(t *testing.T) {
	wantValid(t, nil, api.ErrCode, 0)
	wantValid(t, []api.Ins{}, api.ErrCode, 0)
	wantValid(t, codeOf("End"), api.OK, 0)
	most := make([]api.Ins, api.MaxCode)
	most[api.MaxCode-1].Op = api.End
	wantValid(t, most, api.OK, 0)
	wantValid(t, most[:api.MaxCode-1], api.ErrCode, api.MaxCode-2)
	most[api.MaxCode-1] = api.Ins{Op: api.Jump, A: api.MaxCode - 2}
	wantValid(t, most, api.OK, 0)
	most[api.MaxCode-1].A = api.MaxCode - 1
	wantValid(t, most, api.ErrLoop, api.MaxCode-1)
	most[api.MaxCode-1].A = api.MaxCode
	wantValid(t, most, api.ErrCode, api.MaxCode-1)
	// Too many are ErrLarge, whatever they are.
	long := make([]api.Ins, api.MaxCode+1)
	wantValid(t, long, api.ErrLarge, 0)
	long[api.MaxCode].Op = api.End
	wantValid(t, long, api.ErrLarge, 0)
	long[0] = api.Ins{Op: api.Jump}
	wantValid(t, long, api.ErrLarge, 0)
	long[0] = api.Ins{Op: -1}
	wantValid(t, long, api.ErrLarge, 0)
	wantValid(t, make([]api.Ins, 100000), api.ErrLarge, 0)
}

// numbers at which the rules of P7 may turn, for four instructions.
var numbers = []int{math.MinInt, -2, -1, 0, 1, 2, 3, 4, 5, 6, 7, 999, 1000, math.MaxInt}

// rule: how far A and B may go from 0 on, and whether there may be a test.
type rule struct {
	a, b int
	test bool
}

var rules = []rule{
	api.Take: {a: 4}, api.Span: {a: math.MaxInt}, api.Only: {test: true}, api.Hold: {a: 3},
	api.Jump: {a: 3}, api.Split: {a: 3, b: 3}, api.End: {},
}

// P7: every Op with all numbers, as the second of four instructions. The Takes
// round it leave no round but that of the instruction to itself.
func TestValidNumbers(t *testing.T) {
	for _, op := range numbers {
		for _, a := range numbers {
			for _, b := range numbers {
				x := api.Ins{Op: op, A: a, B: b}
				e, at := api.ErrCode, 1
				if op >= 0 && op < len(rules) && a >= 0 && a <= rules[op].a && b >= 0 && b <= rules[op].b {
					e, at = api.OK, 0
				}
				if e == api.OK && (op == api.Jump && a == 1 || op == api.Split && (a == 1 || b == 1)) {
					e, at = api.ErrLoop, 1
				}
				wantValid(t, []api.Ins{{}, x, {}, {Op: api.End}}, e, at)
			}
		}
	}
}

// P7: a test, or any number in one, is only for Only.
func TestValidUnusedTests(t *testing.T) {
	var tests []api.Test
	for _, n := range []int{math.MinInt, -1, 1, 7} {
		for _, term := range []api.Term{{Of: n}, {Field: n}, {Num: n}} {
			tests = append(tests, api.Test{Left: term}, api.Test{Right: term}, api.Test{More: term})
		}
		tests = append(tests, api.Test{Rel: n}, api.Test{Arith: n})
	}
	for op, rule := range rules {
		if rule.test {
			continue
		}
		for _, test := range tests {
			wantValid(t, []api.Ins{{}, {Op: op, Test: test}, {Op: api.End}}, api.ErrCode, 1)
			wantValid(t, []api.Ins{{}, {Op: api.End}, {Op: api.End, Test: test}}, api.ErrCode, 2)
		}
	}
}

func onlyWith(test api.Test) []api.Ins {
	return []api.Ins{{Op: api.Only, Test: test}, {Op: api.End}}
}

func wantTest(t *testing.T, test api.Test, fine bool) {
	t.Helper()
	e := api.OK
	if !fine {
		e = api.ErrCode
	}
	wantValid(t, onlyWith(test), e, 0)
}

func TestValidTerms(t *testing.T) {
	for _, of := range numbers {
		for _, field := range numbers {
			for _, number := range numbers {
				term := api.Term{Of: of, Field: field, Num: number}
				fine := of == 0 && field == 0 || of >= 1 && of <= 5 && field >= 0 && field <= 3 && number == 0
				wantTest(t, api.Test{Left: term}, fine)
				wantTest(t, api.Test{Right: term}, fine)
				for arith := 1; arith <= 3; arith++ {
					wantTest(t, api.Test{Arith: arith, More: term}, fine)
				}
				wantTest(t, api.Test{More: term}, term == api.Term{})
			}
		}
	}
}

func TestValidRelations(t *testing.T) {
	one := api.Term{Num: 1}
	for _, rel := range numbers {
		for _, arith := range numbers {
			fine := rel >= 0 && rel <= 3 && arith >= 0 && arith <= 3
			wantTest(t, api.Test{Rel: rel, Arith: arith}, fine)
			wantTest(t, api.Test{Left: one, Rel: rel, Right: one, Arith: arith, More: one}, fine && arith != 0)
		}
	}
}

// P7: behind the last instruction there is none to go on at.
func TestValidLast(t *testing.T) {
	for _, last := range []string{"Take 0", "Take 4", "Span 1", "Only 1 < 2", "Hold 0"} {
		wantValid(t, codeOf(last), api.ErrCode, 0)
		wantValid(t, codeOf("End, "+last), api.ErrCode, 1)
		wantValid(t, codeOf("Jump 2, Take 0, "+last), api.ErrCode, 2)
		wantValid(t, codeOf(last+", End"), api.OK, 0)
	}
	for _, last := range []string{"Jump 0", "Split 0 0", "End"} {
		wantValid(t, codeOf("Take 0, "+last), api.OK, 0)
	}
	// An instruction that is none ahead of a last one that is none is told first.
	wantValid(t, codeOf("Take 5, Take 0"), api.ErrCode, 0)
	wantValid(t, codeOf("Take 0, Take 5"), api.ErrCode, 1)
}

func TestValidRounds(t *testing.T) {
	for text, at := range map[string]int{
		"Jump 0":                         0,
		"Split 0 1, End":                 0,
		"Split 1 0, End":                 0,
		"End, Split 1 1":                 1,
		"Take 0, Split 1 2, End":         1,
		"Take 0, Split 2 1, End":         1,
		"Span 0, Jump 0":                 0,
		"Only 1 < 2, Jump 0":             0,
		"Hold 0, Jump 0":                 0,
		"Take 0, Hold 0, Jump 1":         1,
		"Jump 1, Jump 2, Jump 1":         1, // 0 leads to the round, but does not lie on it
		"Jump 2, Jump 2, Jump 2":         2,
		"Jump 2, Jump 3, Jump 1, Jump 2": 1, // the least, not the first that a thread meets
		"Jump 3, End, Jump 2, Jump 2":    2,
		"End, Jump 2, Jump 1":            1, // no thread comes there
		"End, Jump 2, Jump 2":            2,
		// Two rounds, with the Take in the one or the other.
		"Split 1 3, Take 0, Jump 0, Hold 0, Jump 0": 0,
		"Split 1 3, Hold 0, Jump 0, Take 0, Jump 0": 0,
		"Split 1 4, Take 0, Split 3 4, Jump 2, End": 2,
		"Take 0, Jump 2, Split 0 3, Jump 1":         1,
		"Take 0, Jump 2, Split 3 0, Jump 1":         1,
		"Split 3 1, Split 4 2, End, Jump 1, Jump 3": 1,
	} {
		wantValid(t, codeOf(text), api.ErrLoop, at)
	}
	for _, text := range []string{
		"Take 0, Jump 0",
		"Jump 1, Take 0, Jump 0",
		"Take 0, Split 0 0",
		"Take 0, Split 0 2, End",
		"Take 0, Span 5, Only 1 < 2, Hold 1, Jump 0",
		"Split 1 3, Take 0, Jump 0, Take 1, Jump 0",
		"Split 2 1, Jump 2, Hold 0, Take 0, Split 5 0, End",
		"Split 1 1, Split 2 2, Split 3 3, Split 4 4, End",
		"Jump 4, End, Jump 1, Jump 2, Jump 3",
		"Split 2 1, Jump 2, Split 4 3, Jump 4, End",
	} {
		wantValid(t, codeOf(text), api.OK, 0)
	}
}

// P7: rounds of as many instructions as there may be.
func TestValidLongRounds(t *testing.T) {
	most := make([]api.Ins, api.MaxCode)
	for i := range most {
		most[i].Op = api.Hold
	}
	last := api.MaxCode - 1
	for _, to := range []int{0, 1, 500, last} {
		most[last] = api.Ins{Op: api.Jump, A: to}
		wantValid(t, most, api.ErrLoop, to)
	}
	most[last].A = 0
	for _, take := range []int{0, 500, last - 1} {
		most[take].Op = api.Take
		wantValid(t, most, api.OK, 0)
		most[take].Op = api.Hold
	}
	// Very many ways, and no round.
	for i := range most {
		most[i] = api.Ins{Op: api.Split, A: min(i+1, last), B: min(i+2, last)}
	}
	most[last] = api.Ins{Op: api.End}
	wantValid(t, most, api.OK, 0)
	most[last] = api.Ins{Op: api.Jump, A: last}
	wantValid(t, most, api.ErrLoop, last)
}

// P1, P7: of several errors the one named first.
func TestValidOrder(t *testing.T) {
	wantValid(t, codeOf("Jump 0, Take 5, End"), api.ErrCode, 1)
	wantValid(t, codeOf("Jump 0, Jump 1, Take 0"), api.ErrCode, 2)
	wantValid(t, codeOf("Take 7, Jump 1"), api.ErrCode, 0)
	wantValid(t, codeOf("Take 0, Hold 4, Jump 9, Take 5"), api.ErrCode, 1)
	wantValid(t, codeOf("Jump 1, Jump 2, Jump 0, Jump 3"), api.ErrLoop, 0)
}

// leastOnRound finds all ways past no Take, longer and longer ones, and answers
// the first instruction that has one to itself, or -1.
func leastOnRound(code []api.Ins) int {
	n := len(code)
	way := make([][]bool, n)
	for i, x := range code {
		way[i] = make([]bool, n)
		switch x.Op {
		case api.Take, api.End:
		case api.Jump:
			way[i][x.A] = true
		case api.Split:
			way[i][x.A] = true
			way[i][x.B] = true
		default:
			way[i][i+1] = true
		}
	}
	for k := range n {
		for i := range n {
			for j := range n {
				way[i][j] = way[i][j] || way[i][k] && way[k][j]
			}
		}
	}
	for i := range n {
		if way[i][i] {
			return i
		}
	}
	return -1
}

func TestValidMadePrograms(t *testing.T) {
	d := dice(5)
	var seen [api.ErrSpent + 1]int
	for i := 0; i < 40000; i++ {
		code := make([]api.Ins, 1+d.roll(12))
		for k := range code {
			code[k].Op = []int{api.Take, api.Take, api.Hold, api.Jump, api.Split}[d.roll(5)]
			if code[k].Op >= api.Jump {
				code[k].A = d.roll(len(code))
			}
			if code[k].Op == api.Split {
				code[k].B = d.roll(len(code))
			}
		}
		code[len(code)-1] = []api.Ins{{Op: api.End}, {Op: api.Jump, A: d.roll(len(code))}}[d.roll(2)]
		e, at := api.OK, 0
		if least := leastOnRound(code); least >= 0 {
			e, at = api.ErrLoop, least
		}
		seen[e]++
		seen[api.ErrSpent] += bit(at > 2)
		wantValid(t, code, e, at)
	}
	for _, e := range []api.Errno{api.OK, api.ErrLoop, api.ErrSpent} {
		if seen[e] < 500 {
			t.Errorf("the dice made only %d programs of the sort %d", seen[e], e)
		}
	}
}

// P1: any numbers at all.
func TestValidAnyNumbers(t *testing.T) {
	d := dice(13)
	pick := func() int {
		if d.roll(3) > 0 {
			return d.roll(4)
		}
		return numbers[d.roll(len(numbers))]
	}
	term := func() api.Term { return api.Term{Of: pick(), Field: pick(), Num: pick()} }
	for i := 0; i < 40000; i++ {
		code := make([]api.Ins, d.roll(6))
		for k := range code {
			code[k] = api.Ins{Op: d.roll(7), A: pick(), B: d.roll(2) * pick()}
			if d.roll(3) == 0 {
				code[k] = api.Ins{Op: pick(), A: pick(), B: pick(), Test: api.Test{Left: term(), Rel: pick(), Right: term(), Arith: pick(), More: term()}}
			}
		}
		if e, at := Valid(code); e != api.OK && e != api.ErrCode && e != api.ErrLoop || at < 0 || at > len(code) || e == api.OK && at != 0 {
			t.Fatalf("Valid(%v) = %d, %d", code, e, at)
		}
	}
}

// P2: nothing is written into the list that is handed in, nor into its spare room.
func TestValidLeavesItsListAlone(t *testing.T) {
	for _, text := range []string{"Take 0, Jump 0", "Jump 1, Jump 2, Jump 1", "Take 0, Hold 7, End", "Take 0"} {
		room := append(codeOf(text), codeOf("Take 1, Split 3 4, Hold 2, End, End, End")...)
		kept := slices.Clone(room)
		code := room[:len(codeOf(text))]
		e, at := Valid(code)
		wantValid(t, code, e, at)
		if !slices.Equal(room, kept) {
			t.Errorf("Valid wrote into %q or behind it", text)
		}
	}
	// It is not kept either: what is changed later is judged as it then is.
	code := codeOf("Take 0, Jump 0")
	wantValid(t, code, api.OK, 0)
	code[0].Op = api.Hold
	wantValid(t, code, api.ErrLoop, 0)
	code[1].A = 2
	wantValid(t, code, api.ErrCode, 1)
}
