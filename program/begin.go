package program

import "spotter/api"

// Begins answers the Takes of a program at which a new thread waits. It has no
// event at hand, so all else but Jump and Split ends it.
func Begins(code []api.Ins) []int {
	w := walk{code: code, reached: make([]bool, len(code))}
	w.reach(0)
	var takes []int
	for len(w.open) > 0 {
		at := w.open[len(w.open)-1]
		w.open = w.open[:len(w.open)-1]
		switch code[at].Op {
		case api.Take:
			takes = append(takes, at)
		case api.Jump, api.Split:
			w.leave(at)
		}
	}
	return takes
}
