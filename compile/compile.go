// Package compile: the program of a pattern.
package compile

import (
	"spotter/api"
	"spotter/pattern"
	"spotter/places"
)

// writer: starts are the first instructions of the places' blocks and, behind
// them, the End: targets are known ahead of what they lead to.
type writer struct {
	starts []int
	code   []api.Ins
}

// Program answers the program of a pattern that Check finds nothing wrong with.
func Program(p pattern.Pattern) []api.Ins {
	list := places.WriteOut(p.Nodes)
	heads := headsOfBlocks(p, list.Steps)
	w := writer{starts: startsOfBlocks(list, heads)}
	w.addChain(list.First)
	for i := 0; i < len(heads) && i < len(list.Follows); i++ {
		w.addAll(heads[i])
		w.addChain(list.Follows[i])
	}
	w.add(api.Ins{Op: api.End})
	return w.code
}

func startsOfBlocks(list places.List, heads [][]api.Ins) []int {
	var starts []int
	at := list.First.Count()
	for i := 0; i < len(heads) && i < len(list.Follows); i++ {
		starts = append(starts, at)
		at += len(heads[i]) + list.Follows[i].Count()
	}
	return append(starts, at)
}

func (w *writer) add(x api.Ins) {
	w.code = append(w.code, x)
}

func (w *writer) addAll(code []api.Ins) {
	for i := 0; i < len(code); i++ {
		w.add(code[i])
	}
}

func (w *writer) addChain(targets places.Set) {
	left := targets.Count()
	for i := 0; i < len(w.starts); i++ {
		if !targets.Has(i) {
			continue
		}
		left--
		x := api.Ins{Op: api.Jump, A: w.starts[i]}
		if left > 0 {
			x = api.Ins{Op: api.Split, A: w.starts[i], B: len(w.code) + 1}
		}
		w.add(x)
	}
}
