package why

import (
	"slices"

	"edict/api"
	"edict/core"
	"edict/engine"
	"edict/match"
	"edict/sym"
)

// unbound is what a place of a substitution holds where nothing is bound yet: the id of no constant.
const unbound = -1

// headIs is the least substitution of a rule's variables under which its head is the goal; false where there is none by the core's constants.
func headIs(c api.Core, r api.Rule, goal api.Fact) ([]int, bool) {
	if c.Preds[r.Head.Pred].Name != goal.Pred || len(r.Vars) > 0 && len(c.Consts) == 0 {
		return nil, false
	}
	known := sym.NewIds(c.Consts...)
	ids := make([]int, 0, len(goal.Args))
	for _, x := range goal.Args {
		ids = append(ids, known.Find(x))
	}
	return match.Extend(r.Head, ids, slices.Repeat([]int{unbound}, len(r.Vars)))
}

// climb looks for the greatest number of a rule's first conditions that one substitution satisfies.
type climb struct {
	engine *engine.Engine
	core   api.Core
	rule   api.Rule
	rows   rows
	best   int // the greatest number so far
}

// up goes on from a substitution under which the first at positive atoms are rows. The variables that it does not bind yet may stand for any constants, if no more than these atoms are asked for.
func (s *climb) up(at int, sub []int) {
	most := s.most(at, sub)
	if at == len(s.rule.Pos) {
		s.best = max(s.best, most)
		return
	}
	s.best = max(s.best, at)
	p := s.rule.Pos[at]
	for _, args := range s.mayBe(p, sub) {
		if most <= s.best {
			return
		}
		if longer, fits := match.Extend(p, args, sub); fits {
			s.up(at+1, longer)
		}
	}
}

// most is how many conditions at the most can be satisfied with what sub binds already, if the first at positive atoms are rows under it: those ahead of the first one that speaks against it. Where at is the number of all positive atoms, so that all variables are bound, there are just so many.
func (s *climb) most(at int, sub []int) int {
	count := at
	for _, p := range s.rule.Pos[at:] {
		if len(s.mayBe(p, sub)) == 0 {
			return count
		}
		count++
	}
	for _, t := range s.rule.Tests {
		if holds, e := match.Holds(s.core.Consts, t, sub); e == api.OK && !holds {
			return count
		}
		count++
	}
	for _, p := range s.rule.Neg {
		if args, ground := match.Ground(p, sub); ground && s.has(p.Pred, args) {
			return count
		}
		count++
	}
	return count
}

// mayBe is rows, as lists of ids, among which are all that a pattern is under sub.
func (s *climb) mayBe(p api.Pattern, sub []int) [][]int {
	args, ground := match.Ground(p, sub)
	switch {
	case !ground:
		return s.rows.mayBe(p, sub)
	case s.has(p.Pred, args):
		return [][]int{args}
	}
	return nil
}

func (s *climb) has(pred int, args []int) bool {
	f, _ := core.Fact(s.core, api.Row{Pred: pred, Args: args})
	return s.engine.Has(f)
}
