package update

import (
	"math"
	"slices"

	"edict/agenda"
	"edict/api"
	"edict/core"
	"edict/match"
	"edict/parse"
	"edict/plan"
	"edict/rete"
	"edict/strata"
	"edict/sym"
)

// mostGiven is how many facts may be given: what two texts could bring.
const mostGiven = api.MaxClauses + api.MaxFacts

// rules is the clauses with a body of a program's text. Nothing of it ever changes, so that a keeper and its copies share it.
type rules struct {
	core   api.Core // of the rules alone: the predicates and constants of facts come and go
	plan   api.Plan
	strata []int // by rule
}

// newRules is the rules of a text that Load accepted, so that none of the calls below refuses anything.
func newRules(src string) *rules {
	program, _ := parse.Program(src)
	program.Clauses = slices.DeleteFunc(program.Clauses, func(c api.Clause) bool { return len(c.Body) == 0 })
	c, _ := core.Build(program, nil)
	network, _ := plan.Compile(c.Rules)
	levels, _ := strata.Levels(len(c.Preds), strata.Edges(c.Rules))
	r := &rules{core: c, plan: network}
	for _, rule := range c.Rules {
		r.strata = append(r.strata, levels[rule.Head.Pred])
	}
	return r
}

// over is the core of the rules and given facts, or why there may be none: the rules and the facts that were given ahead of a change always have one, so the facts that it adds are to blame.
func (r *rules) over(given set) (api.Core, api.Errno) {
	c := api.Core{Preds: slices.Clone(r.core.Preds), Rules: r.core.Rules}
	preds := sym.NewIds[string]()
	for _, p := range c.Preds {
		preds.Intern(p.Name)
	}
	for _, f := range given {
		id := preds.Intern(f.Pred)
		if id == len(c.Preds) {
			c.Preds = append(c.Preds, api.Pred{Name: f.Pred, Arity: len(f.Args)})
		}
		if c.Preds[id].Arity != len(f.Args) {
			return api.Core{}, api.ErrClash
		}
	}
	if len(c.Preds) > api.MaxPreds {
		return api.Core{}, api.ErrPreds
	}
	if len(given) > mostGiven {
		return api.Core{}, api.ErrFull
	}
	return r.number(c, preds, given)
}

// number puts the facts into a core as rows, and its constants.
func (r *rules) number(c api.Core, preds *sym.Ids[string], given set) (api.Core, api.Errno) {
	consts := sym.New()
	for _, x := range r.core.Consts {
		consts.Intern(x)
	}
	for _, f := range given {
		row := api.Row{Pred: preds.Find(f.Pred)}
		for _, x := range f.Args {
			id, e := consts.Intern(x)
			if e != api.OK {
				return api.Core{}, e
			}
			row.Args = append(row.Args, id)
		}
		c.Facts = append(c.Facts, row)
	}
	for _, x := range consts.All() {
		c.Consts = append(c.Consts, x)
	}
	return c, api.OK
}

// model is the perfect model of a core's rules over its facts.
func (r *rules) model(c api.Core) set {
	net, _ := rete.New(c.Consts, r.plan)
	next := agenda.New(r.strata, c.Consts)
	net.Assert(math.MaxUint64, c.Facts...)
	next.Apply(net.Changes()...)
	for next.Stratum() >= 0 {
		net.Assert(math.MaxUint64, fire(c, next)...)
		next.Apply(net.Changes()...)
	}
	model := set{}
	for _, row := range net.Rows() {
		f, _ := core.Fact(c, row)
		model[textOf(f)] = f
	}
	return model
}

// fire has all acts fire that are eligible: their heads. They are of one stratum, so that none of the heads keeps another act from firing.
func fire(c api.Core, next *agenda.Agenda) []api.Row {
	var heads []api.Row
	for stratum := next.Stratum(); next.Stratum() == stratum; {
		act, _ := next.Pick(0)
		next.Fire(act)
		head := c.Rules[act.Rule].Head
		ids, _ := match.Ground(head, act.Subst)
		heads = append(heads, api.Row{Pred: head.Pred, Args: ids})
	}
	return heads
}
