package engine

import (
	"edict/api"
	"edict/core"
)

// row is a fact in ids; what is not known has the id -1, which no row of the memory has.
func (l *loaded) row(f api.Fact) api.Row {
	r := api.Row{Pred: l.preds.Find(f.Pred)}
	for _, c := range f.Args {
		r.Args = append(r.Args, l.consts.Find(c))
	}
	return r
}

// fact is a row of the memory in names and constants.
func (l *loaded) fact(r api.Row) api.Fact {
	f, _ := core.Fact(l.core, r)
	return f
}

func (l *loaded) constants(ids []int) []api.Const {
	cs := make([]api.Const, 0, len(ids))
	for _, id := range ids {
		cs = append(cs, l.core.Consts[id])
	}
	return cs
}

func (l *loaded) activations(acts []api.Act) []api.Activation {
	told := make([]api.Activation, 0, len(acts))
	for _, a := range acts {
		told = append(told, api.Activation{Rule: a.Rule, Subst: l.constants(a.Subst)})
	}
	return told
}

func (l *loaded) firing(s step) api.Firing {
	return api.Firing{Rule: s.act.Rule, Subst: l.constants(s.act.Subst), Head: l.fact(l.head(s.act)), Fresh: s.fresh}
}
