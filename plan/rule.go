package plan

import "edict/api"

// mayBe tells whether a rule may be compiled.
func mayBe(r api.Rule) bool {
	if len(r.Pos)+len(r.Tests)+len(r.Neg) > api.MaxBody {
		return false
	}
	width, numbered := widthOf(r.Pos)
	if !numbered {
		return false
	}
	for _, t := range r.Tests {
		if !isTest(t, width) {
			return false
		}
	}
	for _, p := range r.Neg {
		if !isPattern(p) || !allBound(p.Args, width) {
			return false
		}
	}
	return true
}

// widthOf is how many variables stand in positive patterns, if these are patterns and their variables are numbered by where they first stand.
func widthOf(pos []api.Pattern) (int, bool) {
	width := 0
	for _, p := range pos {
		if !isPattern(p) {
			return 0, false
		}
		for _, slot := range p.Args {
			if slot.Var && slot.N == width {
				width++
			}
			if !isBound(slot, width) {
				return 0, false
			}
		}
	}
	return width, width <= api.MaxVars
}

// isPattern tells whether a pattern may be, whatever its slots are.
func isPattern(p api.Pattern) bool {
	return p.Pred >= 0 && len(p.Args) <= api.MaxArity
}

// isTest tells whether a test may be where so many variables are bound.
func isTest(t api.Test, width int) bool {
	return t.Op >= api.OpEq && t.Op <= api.OpGe && isBound(t.Left, width) && isBound(t.Right, width)
}

func allBound(slots []api.Slot, width int) bool {
	for _, slot := range slots {
		if !isBound(slot, width) {
			return false
		}
	}
	return true
}

// isBound tells whether a slot is a constant, or one of so many variables.
func isBound(slot api.Slot, width int) bool {
	return slot.N >= 0 && (!slot.Var || slot.N < width)
}
