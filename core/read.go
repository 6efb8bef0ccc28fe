package core

import (
	"slices"

	"edict/api"
	"edict/print"
	"edict/sym"
)

// What is read here stands in the order of the faults: each kind is looked for in all texts ahead of the next.

// readProgram takes in the names of a program and its facts, or answers why they may not be.
func (n names) readProgram(p api.Program, facts []api.Atom) api.Fault {
	if fault := formFault(p, facts); fault.Code != api.OK {
		return fault
	}
	texts := [][]api.Literal{programLiterals(p), factLiterals(facts)}
	if fault := n.takePreds(texts...); fault.Code != api.OK {
		return fault
	}
	for _, c := range p.Clauses {
		if fault := varsFault(c); fault.Code != api.OK {
			return fault
		}
	}
	return n.takeConsts(texts...)
}

// readQuery takes in the names of a core, then those of a query over it, or answers why they may not be.
func (n names) readQuery(c api.Core, ls []api.Literal) api.Fault {
	if !n.takeCore(c) || print.Query(ls) == "" {
		return api.Fault{Code: api.ErrArg}
	}
	if fault := n.takePreds(ls); fault.Code != api.OK {
		return fault
	}
	if fault := varsFault(api.Clause{Body: ls}); fault.Code != api.OK {
		return fault
	}
	return n.takeConsts(ls)
}

func formFault(p api.Program, facts []api.Atom) api.Fault {
	if code := print.Well(p); code != api.OK {
		return api.Fault{Code: code}
	}
	if len(facts) > api.MaxFacts {
		return api.Fault{Code: api.ErrClauses, Text: 1}
	}
	if i := slices.IndexFunc(facts, notGround); i >= 0 {
		return api.Fault{Code: api.ErrArg, Text: 1, Off: facts[i].Off}
	}
	return api.Fault{}
}

// notGround tells whether an atom is not well formed or has a variable.
func notGround(a api.Atom) bool {
	return print.Atom(a) == "" || slices.ContainsFunc(a.Args, func(t api.Term) bool { return t.Kind == api.KVar })
}

// programLiterals is all literals of a program in reading order; heads are among them as positive ones.
func programLiterals(p api.Program) []api.Literal {
	var ls []api.Literal
	for _, c := range p.Clauses {
		ls = append(ls, clauseLiterals(c)...)
	}
	return ls
}

func clauseLiterals(c api.Clause) []api.Literal {
	return append(factLiterals([]api.Atom{c.Head}), c.Body...)
}

func factLiterals(facts []api.Atom) []api.Literal {
	ls := make([]api.Literal, 0, len(facts))
	for _, a := range facts {
		ls = append(ls, api.Literal{Kind: api.LPos, Atom: a})
	}
	return ls
}

// termsOf is the terms of a literal from the left; of one that is of no kind, none.
func termsOf(l api.Literal) []api.Term {
	switch l.Kind {
	case api.LPos, api.LNeg:
		return l.Atom.Args
	case api.LTest:
		return []api.Term{l.Left, l.Right}
	}
	return nil
}

// takeCore puts in what a core has; it answers false where that is not fit.
func (n names) takeCore(c api.Core) bool {
	for _, p := range c.Preds {
		if _, fresh := number(n.preds, p.Name, p); !fresh {
			return false
		}
	}
	for _, k := range c.Consts {
		if _, fresh := number(n.consts, k, k); !fresh || !sym.Valid(k) {
			return false
		}
	}
	return true
}

// takePreds puts in the predicates of texts; a fault's Text is the text's place among them.
func (n names) takePreds(texts ...[]api.Literal) api.Fault {
	for text, ls := range texts {
		for _, l := range ls {
			if l.Kind == api.LTest {
				continue
			}
			if code := n.takePred(l.Atom); code != api.OK {
				return api.Fault{Code: code, Text: text, Off: l.Atom.Off}
			}
		}
	}
	return api.Fault{}
}

func (n names) takePred(a api.Atom) api.Errno {
	id, fresh := number(n.preds, a.Pred, api.Pred{Name: a.Pred, Arity: len(a.Args)})
	if fresh && id >= api.MaxPreds {
		return api.ErrPreds
	}
	if n.preds.list[id].Arity != len(a.Args) {
		return api.ErrClash
	}
	return api.OK
}

// takeConsts puts in the constants of texts; a fault's Text is the text's place among them.
func (n names) takeConsts(texts ...[]api.Literal) api.Fault {
	for text, ls := range texts {
		for _, l := range ls {
			for _, t := range termsOf(l) {
				if code := n.takeConst(t); code != api.OK {
					return api.Fault{Code: code, Text: text, Off: t.Off}
				}
			}
		}
	}
	return api.Fault{}
}

func (n names) takeConst(t api.Term) api.Errno {
	if t.Kind == api.KVar {
		return api.OK
	}
	k := constOf(t)
	if id, fresh := number(n.consts, k, k); fresh && id >= api.MaxConsts {
		return api.ErrFull
	}
	return api.OK
}

// varsFault tells what may not be about a clause's variables: that there are too many, or that one is not bound.
func varsFault(c api.Clause) api.Fault {
	v := newVars()
	for _, l := range clauseLiterals(c) {
		for _, t := range termsOf(l) {
			v.meet(t)
			if len(v.list) > api.MaxVars {
				return api.Fault{Code: api.ErrVars, Off: t.Off}
			}
		}
	}
	if t, there := firstUnbound(c); there {
		return api.Fault{Code: api.ErrRange, Off: t.Off}
	}
	return api.Fault{}
}

// firstUnbound is the first variable of a clause that its body's positive atoms do not bind. An offset alone could not say that there is none: one that was made by hand may be any number.
func firstUnbound(c api.Clause) (api.Term, bool) {
	v := bodyVars(c.Body)
	asked := copyOf(c.Head.Args)
	for _, l := range c.Body {
		if l.Kind != api.LPos {
			asked = append(asked, termsOf(l)...)
		}
	}
	i := slices.IndexFunc(asked, v.lacks)
	if i < 0 {
		return api.Term{}, false
	}
	return asked[i], true
}
