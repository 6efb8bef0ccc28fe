package query

import (
	"slices"

	"edict/api"
	"edict/core"
	"edict/engine"
	"edict/parse"
	"edict/store"
	"edict/sym"
)

// question is a query without a fault, and the rows over which it is asked. Nothing writes into it: several goroutines may read it at once.
type question struct {
	rule   api.Rule
	consts []api.Const
	rows   *store.Store
}

// ask is the question of a text over the present memory, or the query's fault.
func ask(e *engine.Engine, text string) (question, api.Fault) {
	if e == nil {
		return question{}, api.Fault{Code: api.ErrState}
	}
	c := e.Core()
	q, fault := read(c, text)
	if fault.Code == api.OK {
		q.rows = inOrder(c, e.Rows())
	}
	return q, fault
}

// read is the question of a text over a core, still without rows, or the fault of the text.
func read(c api.Core, text string) (question, api.Fault) {
	literals, fault := parse.Query(text)
	if fault.Code != api.OK {
		return question{}, fault
	}
	wider, rule, fault := core.Query(c, literals)
	return question{rule: rule, consts: wider.Consts}, fault
}

// inOrder is a store of rows that are numbered by the order of their constants, so that whoever goes through those of a predicate by their numbers meets them sorted. It has the core's predicates alone: of those that only a query names there are no rows.
func inOrder(c api.Core, rows []api.Row) *store.Store {
	slices.SortFunc(rows, func(a, b api.Row) int {
		return slices.CompareFunc(a.Args, b.Args, func(x, y int) int { return sym.Compare(c.Consts[x], c.Consts[y]) })
	})
	var arities []int
	for _, p := range c.Preds {
		arities = append(arities, p.Arity)
	}
	sorted, _ := store.New(arities)
	sorted.Add(rows...)
	return sorted
}

// tell is an answer in constants, in memory of its own.
func (q question) tell(sub []int) api.Answer {
	row := make([]api.Const, 0, len(sub))
	for _, id := range sub {
		row = append(row, q.consts[id])
	}
	return api.Answer{Row: row}
}
