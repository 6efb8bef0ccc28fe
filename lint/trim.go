package lint

import (
	"slices"

	"edict/api"
)

// needed is the clauses that are neither there twice nor covered by another one.
func needed(cs []api.Clause) []api.Clause {
	var kept []api.Clause
	for num, other := range lookAside(inNumbers(cs...)) {
		if other.kind == 0 {
			kept = append(kept, cs[num])
		}
	}
	return kept
}

// hangOn is all predicates that the goals hang on.
func hangOn(cs []api.Clause, goals []string) map[string]struct{} {
	clauses := map[string][]int{}
	for num, c := range cs {
		clauses[c.Head.Pred] = append(clauses[c.Head.Pred], num)
	}
	hang := map[string]struct{}{}
	for left := slices.Clone(goals); len(left) > 0; {
		last := len(left) - 1
		pred := left[last]
		left = left[:last]
		if _, known := hang[pred]; known {
			continue
		}
		hang[pred] = struct{}{}
		for _, num := range clauses[pred] {
			left = append(left, predsIn(cs[num].Body)...)
		}
	}
	return hang
}

func predsIn(body []api.Literal) []string {
	var preds []string
	for _, l := range body {
		if l.Kind == api.LPos || l.Kind == api.LNeg {
			preds = append(preds, l.Atom.Pred)
		}
	}
	return preds
}

// copies is clauses as they are, in new memory.
func copies(cs []api.Clause) []api.Clause {
	all := slices.Clone(cs)
	for num, c := range all {
		all[num].Head.Args = slices.Clone(c.Head.Args)
		all[num].Body = slices.Clone(c.Body)
		for at, l := range c.Body {
			all[num].Body[at].Atom.Args = slices.Clone(l.Atom.Args)
		}
	}
	return all
}
