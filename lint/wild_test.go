package lint_test

import (
	"math/rand"
	"slices"
	"strings"

	"edict/api"
	"edict/parse"
	"edict/print"
)

// Wild programs whose clauses are near one another.

// wild makes programs.
type wild struct {
	*rand.Rand
	safe bool // with one arity a predicate, and with levels, so that Load takes most of them
}

func (w wild) of(words ...string) string { return words[w.Intn(len(words))] }

func (w wild) variable() api.Term {
	return api.Term{Kind: api.KVar, Text: w.of("X", "Y", "Z", "X", "Y", "_", "_", "_a", "__")}
}

func (w wild) constant() api.Term {
	switch w.Intn(6) {
	case 0:
		return api.Term{Kind: api.KInt, Int: int64(w.Intn(3) - 1)}
	case 1:
		return api.Term{Kind: api.KText, Text: w.of("a", "b", "1", "")}
	}
	return api.Term{Kind: api.KName, Text: w.of("a", "b", "c")}
}

func (w wild) term() api.Term {
	if w.Intn(4) == 0 {
		return w.constant()
	}
	return w.variable()
}

// arities of the predicates, by their levels: a negated atom's predicate comes ahead of the head's in a safe program.
var arities = map[string]int{"a": 0, "b": 1, "c": 2, "d": 1, "e": 2, "p": 1, "q": 2, "r": 1, "s": 0}

const order = "abcdepqrs"

func (w wild) atom(pred string) api.Atom {
	a := api.Atom{Pred: pred}
	for range arities[pred] {
		a.Args = append(a.Args, w.term())
	}
	if !w.safe && w.Intn(25) == 0 {
		a.Args = append(a.Args, w.term())
	}
	return a
}

func (w wild) literal(head string) api.Literal {
	below := strings.Split(order[:strings.Index(order, head)], "")
	switch kind := w.Intn(10); {
	case kind < 6:
		return api.Literal{Kind: api.LPos, Atom: w.atom(w.of(append(below, "b", "c", "d", "e", head)...))}
	case kind < 8:
		return api.Literal{Kind: api.LNeg, Atom: w.atom(w.of(append(below, "b", "c")...))}
	}
	t := api.Literal{Kind: api.LTest, Op: 1 + w.Intn(6), Left: w.term(), Right: w.term()}
	if w.Intn(4) == 0 {
		t.Right = t.Left
	}
	return t
}

func (w wild) head() string { return w.of("d", "e", "p", "p", "q", "q", "r", "s") }

func (w wild) clause() api.Clause {
	pred := w.head()
	c := api.Clause{Head: w.atom(pred)}
	for range w.Intn(5) {
		c.Body = append(c.Body, w.literal(pred))
	}
	if w.safe {
		w.bind(&c)
	}
	return c
}

// bind puts positive atoms behind a body for what nothing binds yet, and gives what is _ and may not be a name.
func (w wild) bind(c *api.Clause) {
	bound := map[string]bool{}
	eachTerm(*c, func(l *api.Literal, t *api.Term) {
		bound[t.Text] = bound[t.Text] || l != nil && l.Kind == api.LPos && t.Kind == api.KVar
	})
	eachTerm(*c, func(l *api.Literal, t *api.Term) {
		if t.Kind != api.KVar || l != nil && l.Kind == api.LPos {
			return
		}
		if t.Text == "_" {
			t.Text = "X"
		}
		if !bound[t.Text] {
			bound[t.Text] = true
			c.Body = append(c.Body, api.Literal{Kind: api.LPos, Atom: api.Atom{Pred: "b", Args: []api.Term{*t}}})
		}
	})
}

// eachTerm goes through a clause's terms in reading order; the literal of the head is nil.
func eachTerm(c api.Clause, f func(l *api.Literal, t *api.Term)) {
	for num := range c.Head.Args {
		f(nil, &c.Head.Args[num])
	}
	for at := range c.Body {
		l := &c.Body[at]
		for num := range l.Atom.Args {
			f(l, &l.Atom.Args[num])
		}
		if l.Kind == api.LTest {
			f(l, &l.Left)
			f(l, &l.Right)
		}
	}
}

func copyOf(c api.Clause) api.Clause {
	return parsed(api.Program{Clauses: []api.Clause{c}}).Clauses[0]
}

// near is a clause that is another one's like: again, more of it, less of it, or a case of it.
func (w wild) near(c api.Clause) api.Clause {
	c = copyOf(c)
	for range 1 + w.Intn(3) {
		switch w.Intn(9) {
		case 0, 1: // other names, each for one or not
			names := map[string]string{"_": "_"}
			others := []string{"X", "Y", "Z", "_a", "__"}
			w.Shuffle(len(others), func(i, j int) { others[i], others[j] = others[j], others[i] })
			for num, name := range []string{"X", "Y", "Z", "_a", "__"} {
				names[name] = others[num]
				if w.Intn(12) == 0 {
					names[name] = w.variable().Text
				}
			}
			eachTerm(c, func(l *api.Literal, t *api.Term) {
				if t.Kind == api.KVar {
					t.Text = names[t.Text]
				}
			})
		case 2: // a constant in place of a variable
			name, value := w.of("X", "Y", "Z"), w.constant()
			eachTerm(c, func(l *api.Literal, t *api.Term) {
				if t.Kind == api.KVar && t.Text == name {
					*t = value
				}
			})
		case 3: // another term somewhere
			eachTerm(c, func(l *api.Literal, t *api.Term) {
				if w.Intn(6) == 0 {
					*t = w.term()
				}
			})
		case 4, 5: // one literal more
			if len(c.Body) < api.MaxBody-4 {
				c.Body = slices.Insert(c.Body, w.Intn(len(c.Body)+1), w.literal(c.Head.Pred))
			}
		case 6: // one less
			if len(c.Body) > 0 {
				at := w.Intn(len(c.Body))
				c.Body = slices.Delete(c.Body, at, at+1)
			}
		case 7: // in another order
			w.Shuffle(len(c.Body), func(i, j int) { c.Body[i], c.Body[j] = c.Body[j], c.Body[i] })
		case 8: // one of the literals once more, or turned round
			if len(c.Body) > 0 && len(c.Body) < api.MaxBody-4 {
				l := c.Body[w.Intn(len(c.Body))]
				if l.Kind == api.LPos && w.Intn(3) == 0 && !w.safe {
					l.Kind = api.LNeg
				}
				c.Body = append(c.Body, l)
			}
		}
		c = copyOf(c)
	}
	if w.safe {
		w.bind(&c)
	}
	return copyOf(c)
}

// parsed is a program as its text gives it, with offsets.
func parsed(p api.Program) api.Program {
	p, fault := parse.Program(print.Program(p))
	if fault.Code != api.OK {
		panic(fault)
	}
	return p
}

func (w wild) program() api.Program {
	var p api.Program
	for range 1 + w.Intn(6) {
		p.Clauses = append(p.Clauses, w.clause())
	}
	for range w.Intn(10) {
		p.Clauses = append(p.Clauses, w.near(p.Clauses[w.Intn(len(p.Clauses))]))
	}
	w.Shuffle(len(p.Clauses), func(i, j int) { p.Clauses[i], p.Clauses[j] = p.Clauses[j], p.Clauses[i] })
	return parsed(p)
}

func (w wild) goals() []string {
	var goals []string
	for range w.Intn(4) {
		goals = append(goals, w.of("a", "b", "c", "d", "e", "p", "q", "r", "s", "x"))
	}
	return goals
}

func (w wild) facts() string {
	var facts []api.Fact
	for range 4 + w.Intn(20) {
		f := api.Fact{Pred: w.of("b", "c", "b", "c", "d", "e", "a", "q")}
		for range arities[f.Pred] {
			x := w.constant()
			f.Args = append(f.Args, api.Const{Kind: x.Kind, Int: x.Int, Text: x.Text})
		}
		facts = append(facts, f)
	}
	return print.Facts(facts)
}
