package program

import "spotter/api"

// isInstruction tells whether x is one, in a program of so many.
func isInstruction(x api.Ins, count int) bool {
	if x.Op == api.Only {
		return x.A == 0 && x.B == 0 && isTest(x.Test)
	}
	if x.Test != (api.Test{}) {
		return false
	}
	switch x.Op {
	case api.Take:
		return isWithin(x.A, api.AnyKind) && x.B == 0
	case api.Span:
		return x.A >= 0 && x.B == 0
	case api.Hold:
		return isWithin(x.A, api.MaxHolds-1) && x.B == 0
	case api.Jump:
		return isWithin(x.A, count-1) && x.B == 0
	case api.Split:
		return isWithin(x.A, count-1) && isWithin(x.B, count-1)
	case api.End:
		return x.A == 0 && x.B == 0
	}
	return false
}

func isWithin(n int, most int) bool {
	return n >= 0 && n <= most
}

func isTest(t api.Test) bool {
	if !isWithin(t.Rel, api.Other) || !isWithin(t.Arith, api.Times) {
		return false
	}
	if t.Arith == api.Alone && t.More != (api.Term{}) {
		return false
	}
	return isTerm(t.Left) && isTerm(t.Right) && isTerm(t.More)
}

func isTerm(t api.Term) bool {
	if t.Of == api.OfNumber {
		return t.Field == 0
	}
	lastHeld := api.OfHeld + api.MaxHolds - 1
	return isWithin(t.Of, lastHeld) && isWithin(t.Field, api.FieldZ) && t.Num == 0
}
