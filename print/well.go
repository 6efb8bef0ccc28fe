package print

import (
	"edict/api"
	"edict/sym"
)

// What is well formed: each function answers OK or the first reason why a thing is not, in the order of chapter 4.
// Offsets are never looked at.

func whyNoProgram(p api.Program) api.Errno {
	if len(p.Clauses) > api.MaxClauses {
		return api.ErrClauses
	}
	return firstReason(p.Clauses, whyNoClause)
}

func whyNoClause(c api.Clause) api.Errno {
	if reason := whyNoAtom(c.Head); reason != api.OK {
		return reason
	}
	return whyNoBody(c.Body)
}

func whyNoBody(ls []api.Literal) api.Errno {
	if len(ls) > api.MaxBody {
		return api.ErrBody
	}
	return firstReason(ls, whyNoLiteral)
}

// whyNoQuery tells nobody which reason it is, but that there is one.
func whyNoQuery(ls []api.Literal) api.Errno {
	if len(ls) == 0 {
		return api.ErrEnd
	}
	return whyNoBody(ls)
}

func whyNoLiteral(l api.Literal) api.Errno {
	switch l.Kind {
	case api.LPos, api.LNeg:
		if l.Op != 0 || !isEmpty(l.Left) || !isEmpty(l.Right) {
			return api.ErrArg
		}
		return whyNoAtom(l.Atom)
	case api.LTest:
		if l.Op < api.OpEq || l.Op > api.OpGe || l.Atom.Pred != "" || len(l.Atom.Args) > 0 {
			return api.ErrArg
		}
		if reason := whyNoTerm(l.Left); reason != api.OK {
			return reason
		}
		return whyNoTerm(l.Right)
	}
	return api.ErrArg
}

func whyNoAtom(a api.Atom) api.Errno { return whyNoAtomOf(a.Pred, a.Args, whyNoTerm) }

func whyNoFact(f api.Fact) api.Errno { return whyNoAtomOf(f.Pred, f.Args, whyNoConst) }

// whyNoAtomOf takes the look at an argument from outside: a variable may stand in an atom, but in no fact.
func whyNoAtomOf[T any](pred string, args []T, whyNot func(T) api.Errno) api.Errno {
	if !sym.IsName(pred) {
		return api.ErrName
	}
	if len(args) > api.MaxArity {
		return api.ErrArity
	}
	return firstReason(args, whyNot)
}

func whyNoTerm(t api.Term) api.Errno {
	if t.Kind != api.KVar {
		return whyNoConst(constOf(t))
	}
	if t.Int != 0 || !sym.IsVar(t.Text) {
		return api.ErrName
	}
	return api.OK
}

func whyNoConst(c api.Const) api.Errno {
	if !sym.Valid(c) {
		return api.ErrConst
	}
	return api.OK
}

func constOf(t api.Term) api.Const {
	return api.Const{Kind: t.Kind, Int: t.Int, Text: t.Text}
}

func isEmpty(t api.Term) bool { return constOf(t) == api.Const{} }

// firstReason is what speaks against the first thing of a list that is not well formed.
func firstReason[T any](list []T, whyNot func(T) api.Errno) api.Errno {
	for _, x := range list {
		if reason := whyNot(x); reason != api.OK {
			return reason
		}
	}
	return api.OK
}
