package query_test

import (
	"fmt"
	"math/rand"
	"slices"
	"strings"
	"testing"

	"edict/api"
	"edict/core"
	"edict/engine"
	"edict/match"
	"edict/parse"
	"edict/print"
	"edict/query"
	"edict/store"
	"edict/sym"
)

// Queries held against plain ones, by the chapter's words: all substitutions gone through over the facts' texts.

// plainFault is the fault of a query of the right form, by chapter 7's words.
func plainFault(e *engine.Engine, literals []api.Literal) api.Fault {
	arities, bound, met := map[string]int{}, map[string]int{}, map[string]int{}
	for _, p := range e.Core().Preds {
		arities[p.Name] = p.Arity
	}
	for _, l := range literals {
		if l.Kind == api.LTest {
			continue
		}
		arity, known := arities[l.Atom.Pred]
		if known && arity != len(l.Atom.Args) {
			return api.Fault{Code: api.ErrClash, Off: l.Atom.Off}
		}
		if !known && len(arities) >= api.MaxPreds {
			return api.Fault{Code: api.ErrPreds, Off: l.Atom.Off}
		}
		arities[l.Atom.Pred] = len(l.Atom.Args)
	}
	count := 0
	for _, l := range literals {
		for _, t := range termsOf(l) {
			if t.Kind != api.KVar {
				continue
			}
			if t.Text == "_" || met[t.Text] == 0 {
				count++
			}
			if met[t.Text] = 1; count > api.MaxVars {
				return api.Fault{Code: api.ErrVars, Off: t.Off}
			}
			if l.Kind == api.LPos && t.Text != "_" {
				bound[t.Text] = 1
			}
		}
	}
	for _, l := range literals {
		for _, t := range termsOf(l) {
			if l.Kind != api.LPos && t.Kind == api.KVar && bound[t.Text] == 0 {
				return api.Fault{Code: api.ErrRange, Off: t.Off}
			}
		}
	}
	return api.Fault{}
}

func termsOf(l api.Literal) []api.Term {
	if l.Kind == api.LTest {
		return []api.Term{l.Left, l.Right}
	}
	return l.Atom.Args
}

func constOf(t api.Term) api.Const { return api.Const{Kind: t.Kind, Int: t.Int, Text: t.Text} }

// plainAnswers is the names and all answers of a query without a fault.
func plainAnswers(e *engine.Engine, literals []api.Literal) (names []string, answers []string) {
	consts := e.Core().Consts
	var own []api.Literal // in these each _ has a name of its own
	var vars []string
	for _, l := range literals {
		l.Atom.Args = slices.Clone(l.Atom.Args)
		for place, t := range l.Atom.Args {
			if t.Kind == api.KVar && t.Text == "_" {
				l.Atom.Args[place].Text = fmt.Sprint("_ ", len(vars))
			}
			if name := l.Atom.Args[place].Text; l.Kind == api.LPos && t.Kind == api.KVar && !slices.Contains(vars, name) {
				vars, names = append(vars, name), append(names, t.Text)
			}
		}
		for _, t := range termsOf(l) {
			if t.Kind != api.KVar && !slices.Contains(consts, constOf(t)) {
				consts = append(consts, constOf(t))
			}
		}
		own = append(own, l)
	}
	slices.SortFunc(consts, sym.Compare)
	memory := map[string]int{}
	for _, f := range e.Facts() {
		memory[print.Fact(f)] = 1
	}
	values := map[string]api.Const{}
	var choose func(num int, row api.Answer)
	choose = func(num int, row api.Answer) {
		if num < len(vars) {
			for _, c := range consts {
				values[vars[num]] = c
				choose(num+1, api.Answer{Row: append(slices.Clone(row.Row), c)})
			}
			return
		}
		if !slices.ContainsFunc(own, func(l api.Literal) bool { return !satisfies(memory, values, l) }) {
			answers = append(answers, rowText(row))
		}
	}
	choose(0, api.Answer{})
	return names, answers
}

func satisfies(memory map[string]int, values map[string]api.Const, l api.Literal) bool {
	var args []api.Const
	for _, t := range termsOf(l) {
		c := constOf(t)
		if t.Kind == api.KVar {
			c = values[t.Text]
		}
		args = append(args, c)
	}
	if l.Kind == api.LTest {
		by := sym.Compare(args[0], args[1])
		return []bool{api.OpEq: by == 0, api.OpNe: by != 0, api.OpLt: by < 0, api.OpLe: by <= 0, api.OpGt: by > 0, api.OpGe: by >= 0}[l.Op]
	}
	return (memory[print.Fact(api.Fact{Pred: l.Atom.Pred, Args: args})] == 1) == (l.Kind == api.LPos)
}

// wild makes texts.
type wild struct{ *rand.Rand }

func (w wild) of(words ...string) string { return words[w.Intn(len(words))] }

func (w wild) constant() string { return w.of("1", "2", "x", "y", `"x"`, "-3", "10") }

// atom has the arity by which its predicate is known, but for a few.
func (w wild) atom(pred string, term func() string) string {
	arity := map[string]int{"a": 1, "b": 2, "c": 2, "d": 0, "e": 3, "new": 1, "fresh": 2}[pred]
	if w.Intn(150) == 0 {
		arity++
	}
	if arity == 0 {
		return pred
	}
	var args []string
	for range arity {
		args = append(args, term())
	}
	return pred + "(" + strings.Join(args, ", ") + ")"
}

func (w wild) engine(t *testing.T) *engine.Engine {
	t.Helper()
	var facts []string
	for range w.Intn(18) {
		facts = append(facts, w.fact())
	}
	src := []string{"e(X, Y, X) :- b(X, Y), c(Y, X).", "c(X, Y) :- b(Y, X), not a(X).", "c(X, Z) :- c(X, Y), b(Y, Z).", "d :- a(X), not b(X, X).", "b(X, x) :- a(X), X < x."}
	w.Shuffle(len(src), func(i, j int) { src[i], src[j] = src[j], src[i] })
	e, _, _ := engine.Load(strings.Join(src[:w.Intn(len(src)+1)], " "), strings.Join(facts, " "))
	if e != nil {
		e.Run([]int{w.Intn(9), -w.Intn(9), w.Intn(9)}, uint64(w.Intn(30)), most)
	}
	return e
}

func (w wild) fact() string { return w.atom(w.of("a", "b", "c", "d", "e", "b"), w.constant) + "." }

// query has up to three variables, so that a plain one can go through all; those that nothing binds are rare.
func (w wild) query() string {
	var parts, vars []string
	count := 0
	for range w.Intn(9) / 2 {
		parts = append(parts, w.atom(w.of("a", "b", "c", "d", "e", "b", "c", "a", "new"), func() string {
			if len(vars) > 0 && w.Intn(2) == 0 {
				return w.of(vars...)
			}
			if w.Intn(8) == 0 || count >= 3 {
				return w.of(w.constant(), w.constant(), "none")
			}
			v := w.of("X", "Y", "Z", "_")
			if v == "_" {
				count++
			} else if !slices.Contains(vars, v) {
				vars = append(vars, v)
				count++
			}
			return v
		}))
	}
	if w.Intn(30) == 0 {
		vars = append(vars, w.of("Z", "_"))
	}
	term := func() string {
		if len(vars) == 0 || w.Intn(5) == 0 {
			return w.of(w.constant(), w.constant(), "none")
		}
		return w.of(vars...)
	}
	for w.Intn(3) == 0 {
		parts = append(parts, term()+" "+w.of("=", "!=", "<", "<=", ">", ">=", "!=", "<")+" "+term())
	}
	for len(parts) == 0 || w.Intn(3) == 0 {
		parts = append(parts, "not "+w.atom(w.of("a", "b", "c", "d", "e", "new", "fresh"), term))
	}
	w.Shuffle(len(parts), func(i, j int) { parts[i], parts[j] = parts[j], parts[i] })
	if len(parts) > api.MaxBody {
		parts = parts[:api.MaxBody]
	}
	return strings.Join(parts, ", ") + "."
}

func TestAgainstPlainQueries(t *testing.T) {
	w := wild{rand.New(rand.NewSource(15))}
	refused, answered := 0, 0
	for range 700 {
		e := w.engine(t)
		if e == nil {
			continue
		}
		was := seen(e)
		var texts []string
		var faults []api.Fault
		first := -1
		for range 6 {
			text := w.query()
			literals, fault := parse.Query(text)
			if fault.Code != api.OK {
				t.Fatalf("%q: %v", text, fault)
			}
			fault = plainFault(e, literals)
			texts, faults = append(texts, text), append(faults, fault)
			if fault.Code != api.OK {
				wantFault(t, e, text, fault.Code, fault.Off)
				refused++
				continue
			}
			names, want := plainAnswers(e, literals)
			wantAnswers(t, e, text, names, want...)
			wantMatches(t, e, literals, want)
			if len(want) > 0 {
				answered++
				if first < 0 {
					first = len(texts) - 1
				}
			}
		}
		wantAny(t, e, texts, first, faults...)
		if seen(e) != was {
			t.Errorf("%q: asking changed the engine", texts)
		}
		if t.Failed() {
			src, facts := e.Texts()
			t.Fatalf("of the program %q, %q and the memory %q", src, facts, e.Model())
		}
	}
	if refused < 50 || answered < 1000 {
		t.Errorf("%d were refused, %d had answers", refused, answered)
	}
}

// wantMatches holds the answers against match.All, by which the chapter defines them.
func wantMatches(t *testing.T, e *engine.Engine, literals []api.Literal, want []string) {
	t.Helper()
	c, rule, _ := core.Query(e.Core(), literals)
	var arities []int
	for _, p := range c.Preds {
		arities = append(arities, p.Arity)
	}
	memory, _ := store.New(arities)
	memory.Add(e.Rows()...)
	subs, errno := match.All(memory, c.Consts, rule)
	var got []string
	for _, sub := range subs {
		var a api.Answer
		for _, id := range sub {
			a.Row = append(a.Row, c.Consts[id])
		}
		got = append(got, rowText(a))
	}
	if errno != api.OK || !slices.Equal(got, want) {
		t.Errorf("match.All of %q = %q, %v, the plain answers are %q", print.Query(literals), got, errno, want)
	}
}

// Whatever the bytes, every call ends without a panic, and all tell the same fault.
func TestAnyBytes(t *testing.T) {
	w := wild{rand.New(rand.NewSource(16))}
	e := rested(t, paths, nodes)
	pieces := []string{"node(X)", "path(X, Y)", "not ", ",", ".", "(", ")", "X", "a", "<", "=", "_", "\"", "#", "%", "\x00", "\xff", "12", " ", ":-", "edge"}
	for range 3000 {
		text := ""
		for range w.Intn(9) {
			text += w.of(pieces...)
		}
		_, _, _, fault := query.Ask(e, text, w.Intn(5))
		if fault.Code != api.OK {
			wantFault(t, e, text, fault.Code, fault.Off)
		}
	}
}
