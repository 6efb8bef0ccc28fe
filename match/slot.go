package match

import "edict/api"

// unbound is what a place of a substitution holds where nothing is bound there.
const unbound = -1

// idOf is the id that a slot comes to under sub, or unbound.
func idOf(slot api.Slot, sub []int) int {
	switch {
	case slot.N < 0 || slot.Var && slot.N >= len(sub):
		return unbound
	case slot.Var:
		return max(sub[slot.N], unbound)
	}
	return slot.N
}

// noPlace tells whether a slot can be in no substitution that this package makes.
func noPlace(slot api.Slot) bool {
	return slot.N < 0 || slot.Var && slot.N >= api.MaxVars
}

// widened is a copy of sub with a place for each variable of p.
func widened(sub []int, p api.Pattern) []int {
	width := len(sub)
	for _, slot := range p.Args {
		if slot.Var {
			width = max(width, slot.N+1)
		}
	}
	longer := make([]int, width)
	for n := range longer {
		longer[n] = unbound
	}
	for n, id := range sub {
		longer[n] = max(id, unbound)
	}
	return longer
}

func isOp(op int) bool { return op >= api.OpEq && op <= api.OpGe }

// stand tells whether two things of which sym.Compare says order stand in the comparison op.
func stand(op int, order int) bool {
	switch op {
	case api.OpEq:
		return order == 0
	case api.OpNe:
		return order != 0
	case api.OpLt:
		return order < 0
	case api.OpLe:
		return order <= 0
	case api.OpGt:
		return order > 0
	}
	return order >= 0
}
