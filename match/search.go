package match

import (
	"iter"

	"edict/api"
	"edict/store"
)

// search looks for the substitutions that satisfy all conditions of a rule. Rule, constants and store are fit.
type search struct {
	store *store.Store
	cs    []api.Const
	rule  api.Rule
	found func(sub []int) bool // what is done with each of them; it answers whether more are wanted
}

// firstOf is a rule with the first k conditions of r's chain alone.
func firstOf(r api.Rule, k int) api.Rule {
	pos := min(k, len(r.Pos))
	tests := min(k-pos, len(r.Tests))
	return api.Rule{Pos: r.Pos[:pos], Tests: r.Tests[:tests], Neg: r.Neg[:k-pos-tests]}
}

// gather is all substitutions that satisfy a rule. None is found twice: it tells which row each pattern is, and a row is in the store once.
func gather(s *store.Store, cs []api.Const, r api.Rule) [][]int {
	var subs [][]int
	look := search{store: s, cs: cs, rule: r}
	look.found = func(sub []int) bool {
		subs = append(subs, sub)
		return len(sub) > 0 // of the empty one there are no others
	}
	look.down(0, []int{})
	return subs
}

// down goes on from a substitution under which the first at patterns are rows; it answers whether more are wanted. What it hands to found was made for that call alone.
func (s *search) down(at int, sub []int) bool {
	if at == len(s.rule.Pos) {
		return !s.content(sub) || s.found(sub)
	}
	p := s.rule.Pos[at]
	for args := range s.rows(p, sub) {
		longer, fits := Extend(p, args, sub)
		if fits && !s.down(at+1, longer) {
			return false
		}
	}
	return true
}

// content tells whether the tests hold and no negated pattern is a row.
func (s *search) content(sub []int) bool {
	for _, t := range s.rule.Tests {
		if holds, _ := Holds(s.cs, t, sub); !holds {
			return false
		}
	}
	for _, p := range s.rule.Neg {
		for range s.rows(p, sub) {
			return false
		}
	}
	return true
}

// rows gives the args of the rows that p may be under sub: all that it is are among them, and where sub binds all of p, no others.
func (s *search) rows(p api.Pattern, sub []int) iter.Seq[[]int] {
	return func(yield func(args []int) bool) {
		if args, ground := Ground(p, sub); ground {
			if s.store.Has(api.Row{Pred: p.Pred, Args: args}) {
				yield(args)
			}
			return
		}
		for _, num := range s.fewest(p, sub) {
			row, _ := s.store.Row(num)
			if !yield(row.Args) {
				return
			}
		}
	}
}

// fewest is the shortest of the lists in which the store has the numbers of all rows that p may be. All rows of the predicate are asked for only where there is no shorter list: each list is a copy.
func (s *search) fewest(p api.Pattern, sub []int) []int {
	var nums []int
	asked := false
	for place, slot := range p.Args {
		id := idOf(slot, sub)
		if id < 0 {
			continue
		}
		if held := s.store.Where(p.Pred, place, id); !asked || len(held) < len(nums) {
			nums, asked = held, true
		}
	}
	if !asked {
		return s.store.Of(p.Pred)
	}
	return nums
}
