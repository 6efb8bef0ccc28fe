package why

import (
	"edict/api"
	"edict/engine"
	"edict/match"
)

// under is what the parts of a core's rule come to under a substitution, a constant for each of its variables.
type under struct {
	core  api.Core
	subst []api.Const
}

// constant is what a slot comes to; false where it points at nothing.
func (u under) constant(s api.Slot) (api.Const, bool) {
	list := u.core.Consts
	if s.Var {
		list = u.subst
	}
	if !within(s.N, list) {
		return api.Const{}, false
	}
	return list[s.N], true
}

// fact is what a pattern comes to; false where something of it points at nothing, or it has another number of slots than its predicate's arity.
func (u under) fact(p api.Pattern) (api.Fact, bool) {
	if !within(p.Pred, u.core.Preds) || len(p.Args) != u.core.Preds[p.Pred].Arity {
		return api.Fact{}, false
	}
	f := api.Fact{Pred: u.core.Preds[p.Pred].Name, Args: make([]api.Const, len(p.Args))}
	for place, slot := range p.Args {
		c, is := u.constant(slot)
		if !is {
			return api.Fact{}, false
		}
		f.Args[place] = c
	}
	return f, true
}

// holds tells whether a test holds; one that points at nothing does not.
func (u under) holds(t api.Test) bool {
	left, isLeft := u.constant(t.Left)
	right, isRight := u.constant(t.Right)
	holds, _ := match.Compare(t.Op, left, right)
	return isLeft && isRight && holds
}

// obstacles is all that stands against a rule of the engine's core, in the order of its chain.
func obstacles(e *engine.Engine, r api.Rule, u under) []api.Obstacle {
	var all []api.Obstacle
	for num, p := range r.Pos {
		if f, _ := u.fact(p); !e.Has(f) {
			all = append(all, api.Obstacle{Kind: api.OMissing, Num: num, Fact: f})
		}
	}
	for num, t := range r.Tests {
		if !u.holds(t) {
			all = append(all, api.Obstacle{Kind: api.OFails, Num: num})
		}
	}
	for num, p := range r.Neg {
		if f, _ := u.fact(p); e.Has(f) {
			all = append(all, api.Obstacle{Kind: api.OBlocked, Num: num, Fact: f})
		}
	}
	return all
}

func within[T any](num int, list []T) bool { return num >= 0 && num < len(list) }
