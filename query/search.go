package query

import (
	"edict/api"
	"edict/match"
)

// search looks for the answers of a question one by one, so that who wants but a few of them does not wait for all.
//
// They come sorted, each once: of two rows that a pattern may be under one substitution, the first place at which they differ is where a new variable first stands, and variables are numbered by where they first stand; so the rows' order is that of the substitutions to which they lead.
type search struct {
	question
	done  <-chan struct{}      // where it is closed, nobody waits for an answer any more
	found func(sub []int) bool // what is done with each answer, a list that nobody else has; it answers whether more are wanted
}

// search hands the answers in their order to found, till it answers false or done is closed.
func (q question) search(done <-chan struct{}, found func(sub []int) bool) {
	s := search{question: q, done: done, found: found}
	s.down(0, []int{})
}

// down goes on from a substitution under which the first at patterns are rows; it answers whether more are wanted.
func (s *search) down(at int, sub []int) bool {
	if !s.content(sub) {
		return true
	}
	if at == len(s.rule.Pos) {
		return s.found(sub)
	}
	p := s.rule.Pos[at]
	for _, num := range s.mayBe(p, sub) {
		if s.stopped() {
			return false
		}
		row, _ := s.rows.Row(num)
		longer, fits := match.Extend(p, row.Args, sub)
		if fits && !s.down(at+1, longer) {
			return false
		}
	}
	return true
}

func (s *search) stopped() bool {
	select {
	case <-s.done:
		return true
	default:
		return false
	}
}

// content tells whether nothing that can be told of a substitution already, however short it still is, speaks against it: a test that fails, a negated atom that is a row.
func (s *search) content(sub []int) bool {
	for _, t := range s.rule.Tests {
		if holds, e := match.Holds(s.consts, t, sub); e == api.OK && !holds {
			return false
		}
	}
	for _, p := range s.rule.Neg {
		if args, ground := match.Ground(p, sub); ground && s.rows.Has(api.Row{Pred: p.Pred, Args: args}) {
			return false
		}
	}
	return true
}

// mayBe is the numbers, rising, of rows among which are all that p is under sub.
func (s *search) mayBe(p api.Pattern, sub []int) []int {
	if args, ground := match.Ground(p, sub); ground {
		if num := s.rows.Num(api.Row{Pred: p.Pred, Args: args}); num >= 0 {
			return []int{num}
		}
		return nil
	}
	var nums []int
	asked := false
	for place, slot := range p.Args {
		id, bound := match.Ground(api.Pattern{Args: []api.Slot{slot}}, sub)
		if !bound {
			continue
		}
		if held := s.rows.Where(p.Pred, place, id[0]); !asked || len(held) < len(nums) {
			nums, asked = held, true
		}
	}
	if asked {
		return nums
	}
	return s.rows.Of(p.Pred)
}
