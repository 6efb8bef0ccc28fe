package match

import (
	"edict/api"
	"edict/store"
	"edict/sym"
)

// conditions is how many the chain of a rule has.
func conditions(r api.Rule) int {
	return len(r.Pos) + len(r.Tests) + len(r.Neg)
}

// fitRule tells whether a rule is fit over so many constants.
func fitRule(r api.Rule, consts int) bool {
	if conditions(r) > api.MaxBody || len(r.Vars) > api.MaxVars {
		return false
	}
	vars := len(r.Vars)
	return fitPatterns(r.Pos, vars, consts) && fitTests(r.Tests, vars, consts) &&
		fitPatterns(r.Neg, vars, consts) && inOrder(r.Pos, vars)
}

func fitPatterns(ps []api.Pattern, vars int, consts int) bool {
	for _, p := range ps {
		if p.Pred < 0 || len(p.Args) > api.MaxArity || !fitSlots(vars, consts, p.Args...) {
			return false
		}
	}
	return true
}

func fitTests(ts []api.Test, vars int, consts int) bool {
	for _, t := range ts {
		if !isOp(t.Op) || !fitSlots(vars, consts, t.Left, t.Right) {
			return false
		}
	}
	return true
}

func fitSlots(vars int, consts int, slots ...api.Slot) bool {
	for _, slot := range slots {
		limit := consts
		if slot.Var {
			limit = vars
		}
		if slot.N < 0 || slot.N >= limit {
			return false
		}
	}
	return true
}

// inOrder tells whether the variables of pos are numbered by where they first stand, and there are vars of them.
func inOrder(pos []api.Pattern, vars int) bool {
	next := 0
	for _, p := range pos {
		for _, slot := range p.Args {
			if slot.Var && slot.N > next {
				return false
			}
			if slot.Var && slot.N == next {
				next++
			}
		}
	}
	return next == vars
}

// fitConsts tells whether a list of constants is fit: a table takes them all, each with its place as its id.
func fitConsts(cs []api.Const) bool {
	t := sym.New()
	for place, c := range cs {
		if id, e := t.Intern(c); e != api.OK || id != place {
			return false
		}
	}
	return true
}

// fitStore tells whether all ids in a store are those of so many constants.
func fitStore(s *store.Store, consts int) bool {
	for num := range s.Len() {
		row, _ := s.Row(num)
		if !fitIds(row.Args, consts) {
			return false
		}
	}
	return true
}

func fitIds(ids []int, consts int) bool {
	for _, id := range ids {
		if id >= consts {
			return false
		}
	}
	return true
}
