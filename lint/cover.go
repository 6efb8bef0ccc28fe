package lint

import (
	"math/bits"
	"slices"

	"edict/api"
)

// mostLiterals is how many literals a clause may have that covers another one.
const mostLiterals = 6

// mostVars is how many variables such a clause can have: each term of its head and of its literals another one.
const mostVars = (1 + mostLiterals) * api.MaxArity

// set is a set of small numbers, a bit for each.
type set uint64

// cover looks for terms of clause b in place of the variables of clause a.
type cover struct {
	a      numbered
	b      numbered
	stands [mostVars]int     // the terms of b, by the variables of a
	bound  set               // the variables of a that stand for a term now
	vars   [mostLiterals]set // the variables of each literal of a
}

// covers tells whether a has, with some terms in place of its variables, the head of b and only literals of b.
func covers(a numbered, b numbered) bool {
	if len(a.body) > mostLiterals || !haveMarks(a, b) {
		return false
	}
	s := &cover{a: a, b: b}
	for at, p := range a.body {
		s.vars[at] = varsOf(p)
	}
	var areIn func(left set) bool
	areIn = func(left set) bool {
		for left != 0 {
			group := s.group(left)
			left &^= group
			at := s.tightest(group)
			found := false
			for num := 0; num < len(b.body) && !found; num++ {
				was := s.bound
				found = s.fit(a.body[at], b.body[num]) && areIn(group&^(1<<at))
				s.bound = was
			}
			if !found {
				return false
			}
		}
		return true
	}
	return s.fit(a.head, b.head) && areIn(1<<len(a.body)-1)
}

// haveMarks tells whether there are parts in b that those of a might be, whatever their terms are: most clauses fall apart here already.
func haveMarks(a numbered, b numbered) bool {
	if a.head.mark != b.head.mark {
		return false
	}
	for _, p := range a.body {
		if !slices.ContainsFunc(b.body, func(q part) bool { return q.mark == p.mark }) {
			return false
		}
	}
	return true
}

// fit binds variables of a so that the part p of a is the part q of b. Where that cannot be, some of them may be bound all the same: the caller takes that back.
func (s *cover) fit(p part, q part) bool {
	if p.mark != q.mark {
		return false
	}
	for place, cell := range p.cells {
		num, isVar := varOf(cell)
		switch {
		case isVar && !s.bound.has(num):
			s.bound |= 1 << num
			s.stands[num] = q.cells[place]
		case isVar && s.stands[num] != q.cells[place], !isVar && cell != q.cells[place]:
			return false
		}
	}
	return true
}

// group is those of the literals that are left which hang together with the first of them by variables that are not bound yet. Of what lies apart each can be looked for on its own: what the one comes to says nothing about the other.
func (s *cover) group(left set) set {
	group := left & -left
	vars := s.vars[group.first()] &^ s.bound
	for grown := true; grown; {
		grown = false
		for more := left &^ group; more != 0; more &= more - 1 {
			at := more.first()
			if s.vars[at]&vars != 0 {
				group |= 1 << at
				vars |= s.vars[at] &^ s.bound
				grown = true
			}
		}
	}
	return group
}

// tightest is that literal of the group which the fewest literals of b can be now: what cannot be is found out early that way.
func (s *cover) tightest(group set) int {
	best, fewest := group.first(), len(s.b.body)+1
	for ; group != 0; group &= group - 1 {
		at := group.first()
		if count := s.count(s.a.body[at], fewest); count < fewest {
			best, fewest = at, count
		}
	}
	return best
}

// count is how many literals of b a literal of a can be now, up to a limit.
func (s *cover) count(p part, limit int) int {
	count := 0
	for num := 0; num < len(s.b.body) && count < limit; num++ {
		was := s.bound
		if s.fit(p, s.b.body[num]) {
			count++
		}
		s.bound = was
	}
	return count
}

// varOf is the number of the variable that a cell is, if it is one.
func varOf(cell int) (int, bool) { return -1 - cell, cell < 0 }

func varsOf(p part) set {
	var vars set
	for _, cell := range p.cells {
		if num, isVar := varOf(cell); isVar {
			vars |= 1 << num
		}
	}
	return vars
}

func (s set) has(num int) bool { return s>>num&1 != 0 }

func (s set) first() int { return bits.TrailingZeros64(uint64(s)) }
