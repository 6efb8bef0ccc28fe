package print

import (
	"strings"

	"edict/api"
	"edict/sym"
)

// A part is whatever can be printed. It is written as it is: whether it is well formed, the face asks ahead of that.
type part interface {
	write(to *strings.Builder)
}

type (
	word     string // stands for itself
	term     api.Term
	constant api.Const
	atom     api.Atom
	fact     api.Fact
	literal  api.Literal
	body     []api.Literal
	clause   api.Clause
	program  api.Program
	query    []api.Literal
	facts    []api.Fact
)

// textOf is the text of a part that nothing speaks against.
func textOf(p part, reason api.Errno) string {
	if reason != api.OK {
		return ""
	}
	var to strings.Builder
	p.write(&to)
	return to.String()
}

// join writes the parts with something between each two.
func join(to *strings.Builder, between string, parts ...part) {
	for i, p := range parts {
		if i > 0 {
			to.WriteString(between)
		}
		p.write(to)
	}
}

// partsOf is a list of the api's things as parts: Go has no conversion of the whole list.
func partsOf[T any](list []T, as func(T) part) []part {
	parts := make([]part, 0, len(list))
	for _, x := range list {
		parts = append(parts, as(x))
	}
	return parts
}

func termPart(t api.Term) part       { return term(t) }
func constantPart(c api.Const) part  { return constant(c) }
func literalPart(l api.Literal) part { return literal(l) }

func (w word) write(to *strings.Builder) { to.WriteString(string(w)) }

func (c constant) write(to *strings.Builder) { to.WriteString(sym.Text(api.Const(c))) }

func (t term) write(to *strings.Builder) { t.value().write(to) }

func (t term) value() part {
	if t.Kind == api.KVar {
		return word(t.Text)
	}
	return constant(constOf(api.Term(t)))
}

func (a atom) write(to *strings.Builder) { writeAtom(to, a.Pred, partsOf(a.Args, termPart)) }

func (f fact) write(to *strings.Builder) { writeAtom(to, f.Pred, partsOf(f.Args, constantPart)) }

// writeAtom takes the arguments as parts, since an atom's are terms and a fact's are constants.
func writeAtom(to *strings.Builder, pred string, args []part) {
	to.WriteString(pred)
	if len(args) > 0 {
		to.WriteString("(")
		join(to, ", ", args...)
		to.WriteString(")")
	}
}

func (l literal) write(to *strings.Builder) {
	switch l.Kind {
	case api.LPos:
		join(to, " ", atom(l.Atom))
	case api.LNeg:
		join(to, " ", word("not"), atom(l.Atom))
	case api.LTest:
		join(to, " ", term(l.Left), opWord(l.Op), term(l.Right))
	}
}

func opWord(op int) word {
	switch op {
	case api.OpEq:
		return "="
	case api.OpNe:
		return "!="
	case api.OpLt:
		return "<"
	case api.OpLe:
		return "<="
	case api.OpGt:
		return ">"
	}
	return ">="
}

func (b body) write(to *strings.Builder) { join(to, ", ", partsOf(b, literalPart)...) }

func (c clause) write(to *strings.Builder) {
	parts := []part{atom(c.Head)}
	if len(c.Body) > 0 {
		parts = append(parts, body(c.Body))
	}
	join(to, " :- ", parts...)
	to.WriteString(".")
}

func (q query) write(to *strings.Builder) { join(to, "", body(q), word(".")) }

func (p program) write(to *strings.Builder) {
	for _, c := range p.Clauses {
		join(to, "", clause(c), word("\n"))
	}
}

func (fs facts) write(to *strings.Builder) {
	for _, f := range fs {
		join(to, "", fact(f), word(".\n"))
	}
}
