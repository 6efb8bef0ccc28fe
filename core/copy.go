package core

import "edict/api"

// copyOf is a list in memory of its own, where its elements have no lists in them.
func copyOf[T any](list []T) []T {
	own := make([]T, len(list))
	copy(own, list)
	return own
}

// copyAll is a list in memory of its own, each element too.
func copyAll[T any](list []T, copyOne func(T) T) []T {
	own := make([]T, 0, len(list))
	for _, x := range list {
		own = append(own, copyOne(x))
	}
	return own
}

func copyRule(r api.Rule) api.Rule {
	return api.Rule{
		Head:   copyPattern(r.Head),
		Pos:    copyAll(r.Pos, copyPattern),
		Tests:  copyOf(r.Tests),
		Neg:    copyAll(r.Neg, copyPattern),
		Vars:   copyOf(r.Vars),
		Clause: r.Clause,
	}
}

func copyPattern(p api.Pattern) api.Pattern {
	return api.Pattern{Pred: p.Pred, Args: copyOf(p.Args)}
}

func copyRow(r api.Row) api.Row {
	return api.Row{Pred: r.Pred, Args: copyOf(r.Args)}
}
