// Package program: whether instructions are a program, which of them lead from
// the first to an End, and where new threads wait.
package program

import "spotter/api"

// Valid answers the first error of P7 that applies, and its place.
func Valid(code []api.Ins) (api.Errno, int) {
	if len(code) > api.MaxCode {
		return api.ErrLarge, 0
	}
	none := firstNone(code)
	if len(code) == 0 || none < len(code) {
		return api.ErrCode, none
	}
	round := firstOnRound(code)
	if round < len(code) {
		return api.ErrLoop, round
	}
	return api.OK, 0
}

// firstNone answers the number of the first instruction that is none, or how
// many there are.
func firstNone(code []api.Ins) int {
	for i := 0; i < len(code); i++ {
		if !isInstruction(code[i], len(code)) {
			return i
		}
		if i == len(code)-1 && goesOnBehind(code[i].Op) {
			return i
		}
	}
	return len(code)
}

// goesOnBehind tells whether a thread goes on at the instruction behind.
func goesOnBehind(op int) bool {
	return op != api.Jump && op != api.Split && op != api.End
}

// firstOnRound answers the least number of an instruction that lies on a round
// without a Take, or how many there are.
func firstOnRound(code []api.Ins) int {
	for i := 0; i < len(code); i++ {
		if comesBack(code, i) {
			return i
		}
	}
	return len(code)
}

// comesBack tells whether steps lead from an instruction back to it, past no Take.
func comesBack(code []api.Ins, from int) bool {
	w := walk{code: code, reached: make([]bool, len(code)), open: []int{from}}
	for len(w.open) > 0 && !w.reached[from] {
		at := w.open[len(w.open)-1]
		w.open = w.open[:len(w.open)-1]
		if code[at].Op != api.Take {
			w.leave(at)
		}
	}
	return w.reached[from]
}
