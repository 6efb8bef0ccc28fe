package engine

import (
	"slices"

	"edict/api"
)

// Core and plan never change: whoever asks for them is given a copy, lists in lists too.

func copyEach[T any](list []T, copyOne func(T) T) []T {
	own := slices.Clone(list)
	for num, x := range list {
		own[num] = copyOne(x)
	}
	return own
}

func copyCore(c api.Core) api.Core {
	return api.Core{
		Preds:  slices.Clone(c.Preds),
		Consts: slices.Clone(c.Consts),
		Rules:  copyEach(c.Rules, copyRule),
		Facts:  copyEach(c.Facts, copyRow),
	}
}

func copyRule(r api.Rule) api.Rule {
	r.Head = copyPattern(r.Head)
	r.Pos = copyEach(r.Pos, copyPattern)
	r.Tests = slices.Clone(r.Tests)
	r.Neg = copyEach(r.Neg, copyPattern)
	r.Vars = slices.Clone(r.Vars)
	return r
}

func copyPattern(p api.Pattern) api.Pattern {
	p.Args = slices.Clone(p.Args)
	return p
}

func copyRow(r api.Row) api.Row {
	r.Args = slices.Clone(r.Args)
	return r
}

func copyPlan(p api.Plan) api.Plan {
	return api.Plan{
		Alphas: copyEach(p.Alphas, copyShape),
		Nodes:  copyEach(p.Nodes, copyNode),
		Ends:   slices.Clone(p.Ends),
	}
}

func copyShape(s api.Shape) api.Shape {
	s.Cells = slices.Clone(s.Cells)
	return s
}

func copyNode(n api.Node) api.Node {
	n.Links = slices.Clone(n.Links)
	n.New = slices.Clone(n.New)
	return n
}
