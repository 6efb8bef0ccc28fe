package lint

import (
	"slices"

	"edict/api"
	"edict/match"
)

// idle tells whether a literal is a test that always holds.
func idle(l api.Literal) bool { return always(l, true) }

// void tells whether a literal is a test that never holds.
func void(l api.Literal) bool { return always(l, false) }

// always tells whether a literal is a test that comes to the same truth whatever its variables stand for.
func always(l api.Literal, truth bool) bool {
	if l.Kind != api.LTest {
		return false
	}
	left, right := l.Left, l.Right
	switch {
	case left.Kind != api.KVar && right.Kind != api.KVar:
		return stand(l.Op, constant(left), constant(right)) == truth
	case sameTerm(left, right):
		// What a variable stands for is beside itself as each constant is: any one tells how it comes out.
		return stand(l.Op, api.Const{Kind: api.KInt}, api.Const{Kind: api.KInt}) == truth
	}
	return false
}

func stand(op int, a api.Const, b api.Const) bool {
	holds, _ := match.Compare(op, a, b)
	return holds
}

// sameTerm tells whether two terms are the same; one _ is never another one.
func sameTerm(a api.Term, b api.Term) bool {
	return constant(a) == constant(b) && !(a.Kind == api.KVar && a.Text == blank)
}

// neverFires tells whether a clause has a literal that cannot be satisfied beside the others.
func neverFires(c api.Clause) bool { return firstAtFault(c.Body) >= 0 }

// firstAtFault is the place of the first literal of a body that never holds, or that a positive one speaks against; -1 where there is none.
func firstAtFault(body []api.Literal) int {
	return slices.IndexFunc(body, func(l api.Literal) bool { return void(l) || l.Kind == api.LNeg && asks(body, l.Atom) })
}

// asks tells whether an atom stands in a body as a positive one.
func asks(body []api.Literal, a api.Atom) bool {
	return slices.ContainsFunc(body, func(l api.Literal) bool {
		return l.Kind == api.LPos && l.Atom.Pred == a.Pred && slices.EqualFunc(l.Atom.Args, a.Args, sameTerm)
	})
}
