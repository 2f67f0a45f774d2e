// Package pattern: the form of a pattern: its text is read into a tree.
package pattern

import "spotter/api"

// What a node of the tree is.
const (
	One    = 0 // a step
	Then   = 1 // Left, and Right directly behind it
	Either = 2 // Left or Right
	Rounds = 3 // Left, from Low to High times
)

// Endless: the High of `*` and `+`.
const Endless = -1

// NoName: the Name of a step without one.
const NoName = -1

// Letters: how many names there are to choose from.
const Letters = 26

// Node: a part of a pattern. Left and Right are numbers of nodes that stand
// ahead of it in the list, so that a loop over the list is a walk of the tree.
type Node struct {
	Op          int
	Step        int
	Left, Right int
	Low, High   int
}

// Step: Of in its tests is as in api.Term, but that events which are held are
// told by the letter of their name (OfHeld for A, OfHeld + 1 for B, and so on):
// which names have places is known only behind the last step.
type Step struct {
	At    int // the place of its kind's byte in the text
	Kind  int // AnyKind for '.'
	Name  int // 0 for A, to 25 for Z, or NoName
	Tests []api.Test
}

// Pattern: Nodes has the whole pattern as its last, Steps are in the text's order.
type Pattern struct {
	Nodes     []Node
	Steps     []Step
	HasWindow bool
	Window    int
}
