package update

import (
	"cmp"
	"slices"

	"edict/api"
	"edict/print"
	"edict/sym"
)

// set is facts by their canonical texts. No fact in it is ever written into, so that sets may share them.
type set map[string]api.Fact

// textOf is a fact's canonical text: two facts are the same where theirs are. It is empty where the fact may not be given, and no set has that.
func textOf(f api.Fact) string { return print.Fact(f) }

// setOf is facts as a set, each a copy; false where one may not be given.
func setOf(facts []api.Fact) (set, bool) {
	s := set{}
	for _, f := range facts {
		text := textOf(f)
		if text == "" {
			return nil, false
		}
		s[text] = copyOf(f)
	}
	return s, true
}

func (s set) has(text string) bool {
	_, is := s[text]
	return is
}

func (s set) sorted() []api.Fact {
	facts := make([]api.Fact, 0, len(s))
	for _, f := range s {
		facts = append(facts, f)
	}
	sortFacts(facts)
	return facts
}

func sortFacts(facts []api.Fact) {
	slices.SortFunc(facts, func(f, g api.Fact) int {
		return cmp.Or(cmp.Compare(f.Pred, g.Pred), slices.CompareFunc(f.Args, g.Args, sym.Compare))
	})
}

func copyOf(f api.Fact) api.Fact {
	return api.Fact{Pred: f.Pred, Args: slices.Clone(f.Args)}
}

func copies(facts []api.Fact) []api.Fact {
	list := make([]api.Fact, 0, len(facts))
	for _, f := range facts {
		list = append(list, copyOf(f))
	}
	return list
}
