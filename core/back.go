package core

import "edict/api"

// wholeRule tells whether all that a rule points at is there.
func wholeRule(c api.Core, r api.Rule) bool {
	if !wholePatterns(c, r, r.Head) || !wholePatterns(c, r, r.Pos...) || !wholePatterns(c, r, r.Neg...) {
		return false
	}
	for _, t := range r.Tests {
		if !wholeSlots(c, r, t.Left, t.Right) {
			return false
		}
	}
	return true
}

func wholePatterns(c api.Core, r api.Rule, ps ...api.Pattern) bool {
	for _, p := range ps {
		if !within(p.Pred, c.Preds) || !wholeSlots(c, r, p.Args...) {
			return false
		}
	}
	return true
}

func wholeSlots(c api.Core, r api.Rule, slots ...api.Slot) bool {
	for _, s := range slots {
		if s.Var && !within(s.N, r.Vars) || !s.Var && !within(s.N, c.Consts) {
			return false
		}
	}
	return true
}

// wholeRow tells whether a row is one of its predicate, and all that it points at is there.
func wholeRow(c api.Core, r api.Row) bool {
	if !within(r.Pred, c.Preds) || len(r.Args) != c.Preds[r.Pred].Arity {
		return false
	}
	for _, id := range r.Args {
		if !within(id, c.Consts) {
			return false
		}
	}
	return true
}

func within[T any](place int, list []T) bool { return place >= 0 && place < len(list) }

// clauseOf is a whole rule in names.
func clauseOf(c api.Core, r api.Rule) api.Clause {
	clause := api.Clause{Head: atomOf(c, r, r.Head)}
	for _, p := range r.Pos {
		clause.Body = append(clause.Body, api.Literal{Kind: api.LPos, Atom: atomOf(c, r, p)})
	}
	for _, t := range r.Tests {
		clause.Body = append(clause.Body, api.Literal{Kind: api.LTest, Op: t.Op, Left: termOf(c, r, t.Left), Right: termOf(c, r, t.Right)})
	}
	for _, p := range r.Neg {
		clause.Body = append(clause.Body, api.Literal{Kind: api.LNeg, Atom: atomOf(c, r, p)})
	}
	return clause
}

func atomOf(c api.Core, r api.Rule, p api.Pattern) api.Atom {
	a := api.Atom{Pred: c.Preds[p.Pred].Name, Args: make([]api.Term, len(p.Args))}
	for place, s := range p.Args {
		a.Args[place] = termOf(c, r, s)
	}
	return a
}

func termOf(c api.Core, r api.Rule, s api.Slot) api.Term {
	if s.Var {
		return api.Term{Kind: api.KVar, Text: r.Vars[s.N]}
	}
	k := c.Consts[s.N]
	return api.Term{Kind: k.Kind, Int: k.Int, Text: k.Text}
}

// factOf is a whole row in names.
func factOf(c api.Core, r api.Row) api.Fact {
	f := api.Fact{Pred: c.Preds[r.Pred].Name, Args: make([]api.Const, len(r.Args))}
	for place, id := range r.Args {
		f.Args[place] = c.Consts[id]
	}
	return f
}
