package program

import "spotter/api"

// walk: steps from instructions to next ones. Reached are those that a step
// led to, open those that are yet to be left.
type walk struct {
	code    []api.Ins
	reached []bool
	open    []int
}

func (w *walk) reach(at int) {
	if at < 0 || at >= len(w.reached) || w.reached[at] {
		return
	}
	w.reached[at] = true
	w.open = append(w.open, at)
}

// leave goes the steps from an instruction to the next ones.
func (w *walk) leave(at int) {
	switch w.code[at].Op {
	case api.Jump:
		w.reach(w.code[at].A)
	case api.Split:
		w.reach(w.code[at].A)
		w.reach(w.code[at].B)
	case api.End:
	default:
		w.reach(at + 1)
	}
}
