package core

import "edict/api"

// names is the predicates and constants that have come, by their ids.
type names struct {
	preds  *roll[string, api.Pred]
	consts *roll[api.Const, api.Const]
}

func newNames() names {
	return names{preds: newRoll[string, api.Pred](), consts: newRoll[api.Const, api.Const]()}
}

// rule is a clause in ids, but for its number. All its names have been taken in and all its variables are bound, so its positive atoms alone bring new variables.
func (n names) rule(c api.Clause) api.Rule {
	var r api.Rule
	v := newVars()
	for _, l := range c.Body {
		if l.Kind == api.LPos {
			r.Pos = append(r.Pos, n.pattern(l.Atom, v))
		}
	}
	for _, l := range c.Body {
		switch l.Kind {
		case api.LNeg:
			r.Neg = append(r.Neg, n.pattern(l.Atom, v))
		case api.LTest:
			r.Tests = append(r.Tests, api.Test{Op: l.Op, Left: n.slot(l.Left, v), Right: n.slot(l.Right, v)})
		}
	}
	r.Head = n.pattern(c.Head, v)
	r.Vars = v.list
	return r
}

func (n names) pattern(a api.Atom, v *vars) api.Pattern {
	p := api.Pattern{Pred: n.preds.nums[a.Pred], Args: make([]api.Slot, len(a.Args))}
	for place, t := range a.Args {
		p.Args[place] = n.slot(t, v)
	}
	return p
}

func (n names) slot(t api.Term, v *vars) api.Slot {
	if t.Kind == api.KVar {
		return api.Slot{Var: true, N: v.take(t.Text)}
	}
	return api.Slot{N: n.consts.nums[constOf(t)]}
}

// rowKey is a row as a map's key. Rows of one predicate have as many args, so what stands behind them does not matter.
type rowKey struct {
	pred int
	args [api.MaxArity]int
}

// addRow puts a ground atom behind the rows, where it is not among them.
func (n names) addRow(rows *roll[rowKey, api.Row], a api.Atom) {
	row := api.Row{Pred: n.preds.nums[a.Pred], Args: make([]int, len(a.Args))}
	for place, t := range a.Args {
		row.Args[place] = n.consts.nums[constOf(t)]
	}
	key := rowKey{pred: row.Pred}
	copy(key.args[:], row.Args)
	number(rows, key, row)
}

func constOf(t api.Term) api.Const {
	return api.Const{Kind: t.Kind, Int: t.Int, Text: t.Text}
}
