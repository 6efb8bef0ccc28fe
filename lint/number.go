package lint

import (
	"slices"

	"edict/api"
	"edict/sym"
)

// blank is the variable that is a new one each time it stands.
const blank = "_"

// mark is what two atoms or two tests have in common if one may be the other with other terms: of an atom the predicate and the number of terms, of a test the op.
type mark struct {
	kind  int
	op    int
	pred  string
	arity int
}

// part is a head or a literal in numbers. A cell is a constant's id, or -1-N for the clause's variable number N.
type part struct {
	mark  int
	cells []int
}

// numbered is a clause in numbers. Its variables are numbered by first standing in reading order, each _ for itself, so that two clauses which are one another again have the same numbers.
type numbered struct {
	head   part
	body   []part
	blanks []int // the numbers of those variables that are _
}

// numberer gives marks and constants their numbers, the same ones in all clauses that are to be held against each other.
type numberer struct {
	marks  *sym.Ids[mark]
	consts *sym.Ids[api.Const]
}

// variable is a variable of one clause; nth tells one _ from the other, and is 0 for all others.
type variable struct {
	name string
	nth  int
}

// clauseNumberer numbers what stands in one clause.
type clauseNumberer struct {
	numberer
	vars   *sym.Ids[variable]
	blanks []int
}

func inNumbers(cs ...api.Clause) []numbered {
	shared := numberer{marks: sym.NewIds[mark](), consts: sym.NewIds[api.Const]()}
	all := make([]numbered, 0, len(cs))
	for _, c := range cs {
		all = append(all, shared.clause(c))
	}
	return all
}

func (n numberer) clause(c api.Clause) numbered {
	one := clauseNumberer{numberer: n, vars: sym.NewIds[variable]()}
	head := one.atom(api.LPos, c.Head)
	body := make([]part, 0, len(c.Body))
	for _, l := range c.Body {
		body = append(body, one.literal(l))
	}
	return numbered{head: head, body: body, blanks: one.blanks}
}

func (n *clauseNumberer) literal(l api.Literal) part {
	if l.Kind == api.LTest {
		return part{mark: n.marks.Intern(mark{kind: l.Kind, op: l.Op}), cells: n.cells(l.Left, l.Right)}
	}
	return n.atom(l.Kind, l.Atom)
}

func (n *clauseNumberer) atom(kind int, a api.Atom) part {
	return part{mark: n.marks.Intern(mark{kind: kind, pred: a.Pred, arity: len(a.Args)}), cells: n.cells(a.Args...)}
}

func (n *clauseNumberer) cells(ts ...api.Term) []int {
	all := make([]int, 0, len(ts))
	for _, t := range ts {
		all = append(all, n.cell(t))
	}
	return all
}

func (n *clauseNumberer) cell(t api.Term) int {
	if t.Kind != api.KVar {
		return n.consts.Intern(constant(t))
	}
	v := variable{name: t.Text}
	if t.Text == blank {
		n.blanks = append(n.blanks, n.vars.Len())
		v.nth = len(n.blanks)
	}
	return -1 - n.vars.Intern(v)
}

// again tells whether a clause is another one again: the same but for the variables' names.
func again(a numbered, b numbered) bool {
	return samePart(a.head, b.head) && slices.EqualFunc(a.body, b.body, samePart) && slices.Equal(a.blanks, b.blanks)
}

func samePart(a part, b part) bool { return a.mark == b.mark && slices.Equal(a.cells, b.cells) }

func constant(t api.Term) api.Const { return api.Const{Kind: t.Kind, Int: t.Int, Text: t.Text} }
