package program

import "spotter/api"

// Trim answers a program without the instructions that lie on no way from the
// first to an End, or the error of P11.
func Trim(code []api.Ins) ([]api.Ins, api.Errno) {
	e, _ := Valid(code)
	if e != api.OK {
		return nil, e
	}
	n := numberAnew(code)
	if n.of(0) == nowhere {
		return nil, api.ErrNever
	}
	var trimmed []api.Ins
	for i := 0; i < len(code); i++ {
		if n.of(i) != nowhere {
			x := n.targetsAnew(code[i])
			trimmed = append(trimmed, x)
		}
	}
	return trimmed, api.OK
}

// numbering: by each instruction its number in the trimmed program, or nowhere
// if it is left out.
type numbering []int

func numberAnew(code []api.Ins) numbering {
	fromFirst := reachedFromFirst(code)
	toEnd := leadingToEnd(code)
	var n numbering
	kept := 0
	for i := 0; i < len(code); i++ {
		if fromFirst[i] && toEnd[i] {
			n = append(n, kept)
			kept++
		} else {
			n = append(n, nowhere)
		}
	}
	return n
}

func (n numbering) of(at int) int {
	if at < 0 || at >= len(n) {
		return nowhere
	}
	return n[at]
}

// targetsAnew answers an instruction that is kept with its targets' new numbers.
// One that goes on behind needs none: the one behind is kept too.
func (n numbering) targetsAnew(x api.Ins) api.Ins {
	switch x.Op {
	case api.Jump:
		x.A = n.of(x.A)
	case api.Split:
		a := n.of(x.A)
		b := n.of(x.B)
		return splitAnew(a, b)
	}
	return x
}

func splitAnew(a int, b int) api.Ins {
	if a == nowhere {
		return api.Ins{Op: api.Jump, A: b}
	}
	if b == nowhere {
		return api.Ins{Op: api.Jump, A: a}
	}
	return api.Ins{Op: api.Split, A: a, B: b}
}

func reachedFromFirst(code []api.Ins) []bool {
	w := walk{code: code, reached: make([]bool, len(code))}
	w.reach(0)
	for len(w.open) > 0 {
		at := w.open[len(w.open)-1]
		w.open = w.open[:len(w.open)-1]
		w.leave(at)
	}
	return w.reached
}

// leadingToEnd looks anew until nothing is added: an instruction may lead to an
// End by one far ahead of it.
func leadingToEnd(code []api.Ins) []bool {
	leads := make([]bool, len(code))
	for added := true; added; {
		added = false
		for i := len(code) - 1; i >= 0; i-- {
			if !leads[i] && leadsOn(code[i], i, leads) {
				leads[i] = true
				added = true
			}
		}
	}
	return leads
}

func leadsOn(x api.Ins, at int, leads []bool) bool {
	one, other := nextOf(x, at)
	return x.Op == api.End || isSet(leads, one) || isSet(leads, other)
}

func isSet(list []bool, at int) bool {
	return at >= 0 && at < len(list) && list[at]
}
