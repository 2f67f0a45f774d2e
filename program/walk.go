package program

import "spotter/api"

// walk: steps from instructions to next ones. Reached are those that a step
// led to, open those that are yet to be left.
type walk struct {
	code    []api.Ins
	reached []bool
	open    []int
}

func (w *walk) reach(at int) {
	if at < 0 || at >= len(w.reached) || w.reached[at] {
		return
	}
	w.reached[at] = true
	w.open = append(w.open, at)
}

// leave goes the steps from an instruction to the next ones.
func (w *walk) leave(at int) {
	one, other := nextOf(w.code[at], at)
	w.reach(one)
	w.reach(other)
}

// nowhere: where a step leads that there is not.
const nowhere = -1

// nextOf answers where the steps from an instruction lead: for most both to the
// same one.
func nextOf(x api.Ins, at int) (int, int) {
	switch x.Op {
	case api.Jump:
		return x.A, x.A
	case api.Split:
		return x.A, x.B
	case api.End:
		return nowhere, nowhere
	}
	return at + 1, at + 1
}
