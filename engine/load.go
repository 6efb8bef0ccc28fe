package engine

import (
	"slices"

	"edict/api"
	"edict/bound"
	"edict/core"
	"edict/parse"
	"edict/plan"
	"edict/store"
	"edict/strata"
	"edict/sym"
)

// loaded is two texts that Load accepted, and what it found in them. Nothing of it ever changes, so that an engine and its forks share it.
type loaded struct {
	src    string
	facts  string
	info   api.Info
	core   api.Core
	plan   api.Plan
	strata []int // by rule
	preds  *sym.Ids[string]
	consts *sym.Ids[api.Const]
}

// read is two texts, or the first of Load's faults.
func read(src string, facts string) (*loaded, api.Fault) {
	if fault := tooLong(src, facts); fault.Code != api.OK {
		return nil, fault
	}
	program, fault := parse.Program(src)
	if fault.Code != api.OK {
		return nil, fault
	}
	given, fault := parse.Facts(facts)
	if fault.Code != api.OK {
		fault.Text = 1
		return nil, fault
	}
	c, fault := core.Build(program, given)
	if fault.Code != api.OK {
		return nil, fault
	}
	levels, fault := levelsOf(program, c)
	if fault.Code != api.OK {
		return nil, fault
	}
	return newLoaded(src, facts, c, levels), api.Fault{}
}

// tooLong looks at both lengths ahead of any other look at a text.
func tooLong(src string, facts string) api.Fault {
	for num, text := range []string{src, facts} {
		if len(text) > api.MaxSource {
			return api.Fault{Code: api.ErrLong, Text: num}
		}
	}
	return api.Fault{}
}

// levelsOf is the levels by predicate; where there are none, the fault at the negated literal that is to blame.
func levelsOf(p api.Program, c api.Core) ([]int, api.Fault) {
	edges := strata.Edges(c.Rules)
	levels, e := strata.Levels(len(c.Preds), edges)
	if e == api.OK {
		return levels, api.Fault{}
	}
	bad, _ := strata.Bad(len(c.Preds), edges)
	return nil, api.Fault{Code: e, Off: negationAt(p, negatedAhead(edges[:bad]))}
}

func negatedAhead(edges []api.Edge) int {
	count := 0
	for _, e := range edges {
		if e.Neg {
			count++
		}
	}
	return count
}

// negationAt is the offset of a negated literal by its number among all of them. The edges of rules stand in reading order too, if those of positive atoms are left out.
func negationAt(p api.Program, num int) int {
	var offsets []int
	for _, c := range p.Clauses {
		for _, l := range c.Body {
			if l.Kind == api.LNeg {
				offsets = append(offsets, l.Off)
			}
		}
	}
	return offsets[num]
}

func newLoaded(src string, facts string, c api.Core, levels []int) *loaded {
	form, _ := plan.Compile(c.Rules) // core makes no rule that it refuses
	l := &loaded{src: src, facts: facts, core: c, plan: form, preds: sym.NewIds[string](), consts: sym.NewIds(c.Consts...)}
	for _, p := range c.Preds {
		l.preds.Intern(p.Name)
	}
	for _, r := range c.Rules {
		l.strata = append(l.strata, levels[r.Head.Pred])
	}
	l.info = api.Info{
		Bound:  bound.Firings(len(c.Consts), c.Rules),
		Tokens: bound.Tokens(len(c.Consts), form),
		Consts: len(c.Consts),
		Preds:  len(c.Preds),
		Rules:  len(c.Rules),
		Facts:  len(c.Facts),
		Strata: countStrata(levels),
		Nodes:  len(form.Nodes),
	}
	return l
}

func countStrata(levels []int) int {
	if len(levels) == 0 {
		return 0
	}
	return slices.Max(levels) + 1
}

// newMemory is a memory with the initial facts.
func (l *loaded) newMemory() *store.Store {
	arities := make([]int, 0, len(l.core.Preds))
	for _, p := range l.core.Preds {
		arities = append(arities, p.Arity)
	}
	memory, _ := store.New(arities)
	memory.Add(l.core.Facts...)
	return memory
}
