package why_test

import (
	"fmt"
	"math/rand"
	"slices"
	"strings"
	"testing"

	"edict/api"
	"edict/engine"
	"edict/print"
	"edict/sym"
	"edict/why"
)

// Proofs, and what keeps rules from firing, held against plain ones by the chapter's words, over wild programs.

// wild makes texts, engines and lines.
type wild struct {
	*rand.Rand
	consts []string
}

func newWild(seed int64, consts ...string) wild { return wild{rand.New(rand.NewSource(seed)), consts} }

func (w wild) of(words ...string) string { return words[w.Intn(len(words))] }

// arities of the predicates: facts are of a to e mostly, heads of d to i.
var arities = map[string]int{"a": 1, "b": 2, "c": 2, "d": 0, "e": 2, "f": 1, "g": 2, "h": 1, "i": 2}

func (w wild) head() string { return w.of("e", "f", "g", "h", "i", "e", "g", "d") }

func (w wild) base() string { return w.of("a", "b", "c", "b", "c", "b", "b", "c", "e", "d") }

func (w wild) pred() string { return w.of(w.head(), w.head(), w.base()) }

func (w wild) constant() string { return w.of(w.consts...) }

func (w wild) term(vars []string) string {
	if len(vars) == 0 || w.Intn(12) == 0 {
		return w.constant()
	}
	return w.of(vars...)
}

func (w wild) atom(pred string, term func() string) string {
	var args []string
	for range arities[pred] {
		args = append(args, term())
	}
	if len(args) == 0 {
		return pred
	}
	return pred + "(" + strings.Join(args, ", ") + ")"
}

// rule has up to three variables, each bound by a positive atom.
func (w wild) rule() string {
	var parts, vars []string
	count := 0
	for range w.Intn(9) / 2 {
		parts = append(parts, w.atom(w.pred(), func() string {
			if w.Intn(20) == 0 || count >= 3 {
				return w.term(vars)
			}
			v := w.of("X", "Y", "Z", "_")
			if v == "_" {
				count++
			} else if !slices.Contains(vars, v) {
				vars = append(vars, v)
				count++
			}
			return v
		}))
	}
	for len(parts) < 8 && w.Intn(5) == 0 {
		parts = append(parts, w.term(vars)+" "+w.of("=", "!=", "<", "<=", ">", ">=")+" "+w.term(vars))
	}
	for len(parts) == 0 || len(parts) < api.MaxBody && w.Intn(5) == 0 {
		parts = append(parts, "not "+w.atom(w.of("a", "b", "c", w.pred()), func() string { return w.term(vars) }))
	}
	w.Shuffle(len(parts), func(i, j int) { parts[i], parts[j] = parts[j], parts[i] })
	return w.atom(w.head(), func() string { return w.term(vars) }) + " :- " + strings.Join(parts, ", ") + "."
}

// known is rules that bring one another far.
func (w wild) known() string {
	return w.of("g(X, Y) :- b(X, Y).", "g(X, Z) :- b(X, Y), g(Y, Z).", "g(X, Z) :- g(X, Y), g(Y, Z).", "i(Y, X) :- g(X, Y), c(_, Y).", "i(X, X) :- i(X, Y), i(Y, X).",
		"h(X) :- i(X, _), not f(X).", "d :- h(X), h(Y), X < Y.", "e(X, Y) :- h(X), a(Y).", "f(X) :- a(X), not b(X, X).", "f(Y) :- b(_, Y), c(Y, Y).", "h(X) :- g(X, X), d, not a(X).",
		"i(X, Z) :- b(X, Y), b(Y, Z), c(Z, _), X != Z, not a(Y), not f(Z).", "e(X, Y) :- b(X, Y), b(Y, X), b(X, _), X <= Y, not c(X, X), not a(Y).")
}

func (w wild) texts() (string, string) {
	var src, facts []string
	for range w.Intn(5) {
		src = append(src, w.rule())
	}
	for range w.Intn(12) {
		src = append(src, w.known())
	}
	for range w.Intn(18) {
		facts = append(facts, w.atom(w.base(), w.constant)+".")
	}
	if len(src) > 0 && w.Intn(4) == 0 {
		src = append(src, w.of(src...))
	}
	if w.Intn(3) == 0 {
		src = append(src, w.atom(w.pred(), w.constant)+".")
	}
	w.Shuffle(len(src), func(i, j int) { src[i], src[j] = src[j], src[i] })
	return strings.Join(src, " "), strings.Join(facts, " ")
}

// engine is one that Load accepted and that has run somewhere: in pieces, with budgets, or to the end; nil where the texts have no levels.
func (w wild) engine(t *testing.T) *engine.Engine {
	t.Helper()
	src, facts := w.texts()
	e, _, fault := engine.Load(src, facts)
	if e == nil {
		if fault.Code != api.ErrStrata {
			t.Fatalf("Load(%q, %q) = %v", src, facts, fault)
		}
		return nil
	}
	for range w.Intn(4) {
		var picks []int
		for range w.Intn(9) {
			picks = append(picks, w.Intn(31)-15)
		}
		e.Run(picks, uint64(w.Intn(12)), uint64(w.Intn(400)))
		if w.Intn(8) == 0 {
			e = e.Fork()
		}
		if w.Intn(20) == 0 {
			e.Reset()
		}
	}
	if w.Intn(3) > 0 {
		e.Run([]int{w.Intn(9), -w.Intn(9), w.Intn(9), w.Intn(9)}, most, most)
	}
	return e
}

// substs is all lists of so many of the constants.
func substs(consts []api.Const, count int) [][]api.Const {
	all := [][]api.Const{{}}
	for range count {
		var longer [][]api.Const
		for _, s := range all {
			for _, c := range consts {
				longer = append(longer, append(slices.Clone(s), c))
			}
		}
		all = longer
	}
	return all
}

func sameFact(f, g api.Fact) bool { return f.Pred == g.Pred && slices.Equal(f.Args, g.Args) }

func has(memory []api.Fact, f api.Fact) bool {
	return slices.ContainsFunc(memory, func(g api.Fact) bool { return sameFact(f, g) })
}

func plainConst(c api.Core, s api.Slot, subst []api.Const) (api.Const, bool) {
	list := c.Consts
	if s.Var {
		list = subst
	}
	for num, x := range list {
		if num == s.N {
			return x, true
		}
	}
	return api.Const{}, false
}

func plainUnder(c api.Core, p api.Pattern, subst []api.Const) (api.Fact, bool) {
	for num, pred := range c.Preds {
		if num != p.Pred || pred.Arity != len(p.Args) {
			continue
		}
		f := api.Fact{Pred: pred.Name}
		for _, s := range p.Args {
			x, is := plainConst(c, s, subst)
			if !is {
				return api.Fact{}, false
			}
			f.Args = append(f.Args, x)
		}
		return f, true
	}
	return api.Fact{}, false
}

func plainHolds(c api.Core, x api.Test, subst []api.Const) bool {
	left, is := plainConst(c, x.Left, subst)
	right, too := plainConst(c, x.Right, subst)
	if !is || !too || !sym.Valid(left) || !sym.Valid(right) {
		return false
	}
	by := sym.Compare(left, right)
	return map[int]int{api.OpEq: 2, api.OpNe: 5, api.OpLt: 1, api.OpLe: 3, api.OpGt: 4, api.OpGe: 6}[x.Op]>>(by+1)&1 == 1
}

// plainRight is whether line number num is right, by P1's words.
func plainRight(c api.Core, memory []api.Fact, lines []api.Line, num int) bool {
	l := lines[num]
	if l.Rule == -1 {
		for _, row := range c.Facts {
			p := api.Pattern{Pred: row.Pred}
			for _, id := range row.Args {
				p.Args = append(p.Args, api.Slot{N: id})
			}
			if f, is := plainUnder(c, p, nil); is && sameFact(f, l.Fact) {
				return len(l.Subst)+len(l.From) == 0
			}
		}
		return false
	}
	for rule, r := range c.Rules {
		if rule != l.Rule || len(l.Subst) != len(r.Vars) || len(l.From) != len(r.Pos) {
			continue
		}
		for _, x := range l.Subst {
			if !slices.Contains(c.Consts, x) {
				return false
			}
		}
		for k, p := range r.Pos {
			from := l.From[k]
			if from < 0 || from >= num {
				return false
			}
			if f, is := plainUnder(c, p, l.Subst); !is || !sameFact(f, lines[from].Fact) {
				return false
			}
		}
		for _, x := range r.Tests {
			if !plainHolds(c, x, l.Subst) {
				return false
			}
		}
		for _, p := range r.Neg {
			if f, is := plainUnder(c, p, l.Subst); !is || has(memory, f) {
				return false
			}
		}
		f, is := plainUnder(c, r.Head, l.Subst)
		return is && sameFact(f, l.Fact)
	}
	return false
}

func plainCheck(c api.Core, memory []api.Fact, lines []api.Line) int {
	for num := range lines {
		if !plainRight(c, memory, lines, num) {
			return num
		}
	}
	return -1
}

// plainProof is P2's list: the facts that are wanted are marked till no more are, and told in the order of the memory.
func plainProof(e *engine.Engine, f api.Fact) (lines []api.Line) {
	c, memory := e.Core(), e.Facts()
	steps := make([]*api.Firing, len(memory))
	from := make([][]int, len(memory))
	place := func(f api.Fact) int { return slices.IndexFunc(memory, func(g api.Fact) bool { return sameFact(f, g) }) }
	for _, s := range e.Log() {
		num := place(s.Head)
		if !s.Fresh {
			continue
		}
		steps[num] = &s
		for _, p := range c.Rules[s.Rule].Pos {
			g, _ := plainUnder(c, p, s.Subst)
			from[num] = append(from[num], place(g))
		}
	}
	wanted := make([]int, len(memory))
	wanted[place(f)] = 1
	for range memory {
		for num := range memory {
			for _, other := range from[num] {
				wanted[other] |= wanted[num]
			}
		}
	}
	for num, g := range memory {
		if wanted[num] == 0 {
			continue
		}
		l := api.Line{Fact: g, Rule: -1}
		if steps[num] != nil {
			l.Rule, l.Subst = steps[num].Rule, steps[num].Subst
		}
		for _, other := range from[num] {
			line := 0
			for _, ahead := range wanted[:other] {
				line += ahead
			}
			l.From = append(l.From, line)
		}
		lines = append(lines, l)
	}
	return lines
}

func plainDepths(lines []api.Line) []int {
	depths := make([]int, len(lines))
	for range lines {
		for num, l := range lines {
			if l.Rule == -1 {
				continue
			}
			depths[num] = 1
			for _, from := range l.From {
				depths[num] = max(depths[num], 1+depths[from])
			}
		}
	}
	return depths
}

// plainChain is for each condition of a rule under a substitution why it is not satisfied, or "".
func plainChain(e *engine.Engine, rule int, subst []api.Const) (chain []string) {
	c, memory := e.Core(), e.Facts()
	r := c.Rules[rule]
	for k, p := range r.Pos {
		f, _ := plainUnder(c, p, subst)
		chain = append(chain, "")
		if !has(memory, f) {
			chain[len(chain)-1] = fmt.Sprint("1 ", k, " ", print.Fact(f))
		}
	}
	for k, x := range r.Tests {
		chain = append(chain, "")
		if !plainHolds(c, x, subst) {
			chain[len(chain)-1] = fmt.Sprint("2 ", k, " -")
		}
	}
	for k, p := range r.Neg {
		f, _ := plainUnder(c, p, subst)
		chain = append(chain, "")
		if has(memory, f) {
			chain[len(chain)-1] = fmt.Sprint("3 ", k, " ", print.Fact(f))
		}
	}
	return chain
}

// P2, P3, P5: each fact's proof
func TestWildProofs(t *testing.T) {
	w := newWild(16, "1", "x", `"x"`, "y", "-3")
	proofs, deep, long, blocked := 0, 0, 0, 0
	for range 1200 {
		e := w.engine(t)
		if e == nil {
			continue
		}
		was := seen(e)
		c, memory := e.Core(), e.Facts()
		for _, f := range memory {
			lines := prove(t, e, f)
			wantLines(t, "Prove("+print.Fact(f)+")", lines, plainProof(e, f)...)
			wantCheck(t, c, memory, lines, -1)
			wantDepth(t, lines, plainDepths(lines)...)
			wantText(t, lines, plainText(lines))
			depths, _ := why.Depth(lines)
			for num, l := range lines {
				for _, from := range l.From {
					if depths[from] >= depths[num] {
						t.Errorf("line %d of %v is not deeper than line %d", num, lines, from)
					}
				}
				if l.Rule >= 0 && len(c.Rules[l.Rule].Neg) > 0 {
					blocked++
				}
			}
			proofs++
			if depths[len(depths)-1] > 2 {
				deep++
			}
			if len(lines) > 6 {
				long++
			}
		}
		if seen(e) != was {
			t.Error("the engine is another")
		}
		if t.Failed() {
			src, facts := e.Texts()
			t.Fatalf("%q, %q", src, facts)
		}
	}
	if proofs < 8000 || deep < 250 || long < 120 || blocked < 600 {
		t.Errorf("%d proofs, %d deep, %d long, %d lines of rules with negations", proofs, deep, long, blocked)
	}
}

func plainText(lines []api.Line) (text string) {
	list := func(all []string) string { return strings.Join(all, ", ") }
	for num, l := range lines {
		text += fmt.Sprintf("%d: %s", num, print.Fact(l.Fact))
		if l.Rule == -1 {
			text += " given\n"
			continue
		}
		var constants, from []string
		for _, c := range l.Subst {
			constants = append(constants, sym.Text(c))
		}
		for _, n := range l.From {
			from = append(from, fmt.Sprint(n))
		}
		text += fmt.Sprintf(" by %d {%s}", l.Rule, list(constants))
		if len(from) > 0 {
			text += " from " + list(from)
		}
		text += "\n"
	}
	return text
}

// spoil changes something of a list of lines, of which nothing is shared.
func (w wild) spoil(lines []api.Line) []api.Line {
	num := w.Intn(len(lines))
	l := &lines[num]
	n := w.Intn(7) - 2
	switch w.Intn(9) {
	case 0:
		l.Rule += w.Intn(3) - 1
	case 1:
		l.Subst = append(l.Subst, number(1))[w.Intn(2):]
	case 2:
		l.From = append(l.From, n)[w.Intn(2):]
	case 3:
		if len(l.From) > 0 {
			l.From[w.Intn(len(l.From))] = n
		}
	case 4:
		if len(l.Subst) > 0 {
			l.Subst[w.Intn(len(l.Subst))] = []api.Const{number(1), name("x"), name("y"), {Kind: api.KText, Text: "x"}}[w.Intn(4)]
		}
	case 5:
		if len(l.Fact.Args) > 0 {
			l.Fact.Args[w.Intn(len(l.Fact.Args))] = []api.Const{number(1), name("x"), name("y"), {}}[w.Intn(4)]
		}
	case 6:
		l.Fact.Pred = w.of("a", "b", "c", "d", "e", "f", "g", "k", "")
	case 7:
		lines = slices.Delete(lines, num, num+1)
	case 8:
		other := w.Intn(len(lines))
		lines[num], lines[other] = lines[other], lines[num]
	}
	return lines
}

// spoilCore changes something of a core, so that something may point at nothing.
func (w wild) spoilCore(c *api.Core) {
	slots := func(p *api.Pattern) *api.Slot {
		if len(p.Args) == 0 {
			return &api.Slot{}
		}
		return &p.Args[w.Intn(len(p.Args))]
	}
	n := w.Intn(9) - 2
	if w.Intn(6) == 0 || len(c.Rules) == 0 {
		switch w.Intn(4) {
		case 0:
			c.Preds = c.Preds[:w.Intn(len(c.Preds)+1)]
		case 1:
			c.Consts = c.Consts[:w.Intn(len(c.Consts)+1)]
		case 2:
			c.Facts = c.Facts[:w.Intn(len(c.Facts)+1)]
		case 3:
			if len(c.Preds) > 0 {
				c.Preds[w.Intn(len(c.Preds))].Arity = n
			}
		}
		return
	}
	r := &c.Rules[w.Intn(len(c.Rules))]
	patterns := []*api.Pattern{&r.Head}
	for num := range r.Pos {
		patterns = append(patterns, &r.Pos[num])
	}
	for num := range r.Neg {
		patterns = append(patterns, &r.Neg[num], &r.Neg[num])
	}
	p := patterns[w.Intn(len(patterns))]
	switch w.Intn(6) {
	case 0:
		p.Pred = n
	case 1:
		p.Args = append(p.Args, api.Slot{Var: n > 0, N: n})[w.Intn(2):]
	case 2:
		*slots(p) = api.Slot{Var: w.Intn(2) == 0, N: n}
	case 3:
		r.Vars = append(r.Vars, "X")[w.Intn(2):]
	case 4, 5:
		if len(r.Tests) > 0 {
			x := &r.Tests[w.Intn(len(r.Tests))]
			*[]*int{&x.Op, &x.Left.N, &x.Right.N}[w.Intn(3)] = n
		}
	}
}

// P1: lines, cores and memories with something turned
func TestWildChecks(t *testing.T) {
	w := newWild(17, "1", "x", `"x"`, "1", "x")
	whole, first, later := 0, 0, 0
	for range 1500 {
		e := w.engine(t)
		if e == nil || len(e.Facts()) == 0 {
			continue
		}
		for range 12 {
			c, memory := e.Core(), e.Facts()
			lines := prove(t, e, memory[w.Intn(len(memory))])
			lines = append(lines, prove(t, e, memory[len(memory)-1])...)
			for range w.Intn(3) {
				if len(lines) > 0 {
					lines = w.spoil(lines)
				}
			}
			if w.Intn(3) == 0 {
				w.spoilCore(&c)
			}
			if w.Intn(3) == 0 {
				memory = append(memory, fact(w.atom(w.pred(), w.constant)), fact(w.atom(w.pred(), w.constant)))
			}
			if w.Intn(4) == 0 {
				memory = memory[w.Intn(len(memory)):]
			}
			want := plainCheck(c, memory, lines)
			wantCheck(t, c, memory, lines, want)
			switch {
			case want < 0:
				whole++
			case want == 0:
				first++
			default:
				later++
			}
			if t.Failed() {
				t.Fatalf("core %+v, memory %v", c, memory)
			}
		}
	}
	if whole < 2000 || first < 1500 || later < 2500 {
		t.Errorf("%d whole, %d wrong at once, %d later", whole, first, later)
	}
}

// P4: at rest, whatever lines are right tell facts of the memory. Here they are put together as they come, each if it is right behind those ahead of it.
func TestNothingElseIsProved(t *testing.T) {
	w := newWild(18, "1", "x", `"x"`, "1", "x")
	right := 0
	for range 250 {
		e := w.engine(t)
		if e == nil {
			continue
		}
		e.Run(nil, most, most)
		c, memory := e.Core(), e.Facts()
		var lines []api.Line
		try := func(l api.Line) {
			with := append(slices.Clone(lines), l)
			if why.Check(c, memory, with) < 0 {
				lines = with
				right++
				if !e.Has(l.Fact) {
					src, facts := e.Texts()
					t.Fatalf("%q, %q: %v is right, and its fact is not in memory", src, facts, with)
				}
			}
		}
		for _, r := range c.Facts {
			f, _ := plainUnder(c, api.Pattern{Pred: r.Pred, Args: slotsOf(r.Args)}, nil)
			try(api.Line{Fact: f, Rule: -1})
		}
		for range 2 {
			for rule, r := range c.Rules {
				for _, subst := range substs(c.Consts, len(r.Vars)) {
					f, _ := plainUnder(c, r.Head, subst)
					l := api.Line{Fact: f, Rule: rule, Subst: subst}
					for _, p := range r.Pos {
						g, _ := plainUnder(c, p, subst)
						l.From = append(l.From, slices.IndexFunc(lines, func(o api.Line) bool { return sameFact(o.Fact, g) }))
					}
					try(l)
				}
			}
		}
	}
	if right < 2000 {
		t.Errorf("%d lines were right", right)
	}
}

func slotsOf(ids []int) (slots []api.Slot) {
	for _, id := range ids {
		slots = append(slots, api.Slot{N: id})
	}
	return slots
}

// P7: all substitutions, those with a constant that nobody knows among them; and just those of the conflict set have nothing against them.
func TestWildAgainst(t *testing.T) {
	w := newWild(19, "1", "x", `"x"`, "1", "x")
	asked, free := 0, 0
	for range 500 {
		e := w.engine(t)
		if e == nil {
			continue
		}
		was, c := seen(e), e.Core()
		conflict := map[string]int{}
		for _, a := range e.Conflict() {
			conflict[actText(a.Rule, a.Subst)] = 1
		}
		known := append(c.Consts, []api.Const{name("new"), number(0), {Kind: api.KText}}[w.Intn(3)])
		for rule, r := range c.Rules {
			all := substs(known, len(r.Vars))
			for _, subst := range all {
				var want []string
				for _, text := range plainChain(e, rule, subst) {
					if text != "" {
						want = append(want, text)
					}
				}
				wantAgainst(t, e, rule, subst, want...)
				if (len(want) == 0) != (conflict[actText(rule, subst)] == 1) && !slices.Contains(subst, known[len(known)-1]) {
					t.Errorf("Against(%d, %v) = %v, in the conflict set: %d", rule, subst, want, conflict[actText(rule, subst)])
				}
				asked++
				if len(want) == 0 {
					free++
				}
			}
			wantNotAgainst(t, e, rule, append(all[0], name("x")), api.ErrArg)
			if len(r.Vars) > 0 {
				wantNotAgainst(t, e, rule, all[0][1:], api.ErrArg)
				all[0][w.Intn(len(r.Vars))] = api.Const{Kind: api.KName}
				wantNotAgainst(t, e, rule, all[0], api.ErrArg)
			}
		}
		wantNotAgainst(t, e, len(c.Rules), nil, api.ErrNone)
		if seen(e) != was {
			t.Error("the engine is another")
		}
		if t.Failed() {
			src, facts := e.Texts()
			t.Fatalf("%q, %q", src, facts)
		}
	}
	if asked < 10000 || free < 1000 {
		t.Errorf("%d asked, %d free", asked, free)
	}
}

// plainReach is P8's number: all substitutions gone through.
func plainReach(e *engine.Engine, rule int, goal api.Fact) int {
	c := e.Core()
	best := -1
	for _, subst := range substs(c.Consts, len(c.Rules[rule].Vars)) {
		if f, _ := plainUnder(c, c.Rules[rule].Head, subst); !sameFact(f, goal) {
			continue
		}
		chain := plainChain(e, rule, subst)
		k := slices.IndexFunc(chain, func(text string) bool { return text != "" })
		if k < 0 {
			k = len(chain)
		}
		best = max(best, k)
	}
	return best
}

// goals is all facts of the core's names, and some of others.
func goals(c api.Core) (all []api.Fact) {
	consts := append(slices.Clone(c.Consts), name("new"))
	for _, p := range append(c.Preds, api.Pred{Name: "k", Arity: 1}, api.Pred{Name: "b"}, api.Pred{Name: "d", Arity: 1}) {
		for _, args := range substs(consts, p.Arity) {
			all = append(all, api.Fact{Pred: p.Name, Args: args})
		}
	}
	return all
}

// P8, and that at rest a fact is in memory just if it is an initial one or some rule reaches it.
func TestWildReach(t *testing.T) {
	w := newWild(20, "1", "x", `"x"`, "1", "x")
	counts := make([]int, 12)
	rested := 0
	for range 700 {
		e := w.engine(t)
		if e == nil {
			continue
		}
		was, c := seen(e), e.Core()
		rest := len(e.Eligible()) == 0
		for _, goal := range goals(c) {
			whole := slices.ContainsFunc(c.Facts, func(r api.Row) bool {
				f, _ := plainUnder(c, api.Pattern{Pred: r.Pred, Args: slotsOf(r.Args)}, nil)
				return sameFact(f, goal)
			})
			for rule, r := range c.Rules {
				if c.Preds[r.Head.Pred].Name != goal.Pred && w.Intn(20) > 0 {
					continue
				}
				want := plainReach(e, rule, goal)
				wantReach(t, e, rule, goal, want)
				counts[want+1]++
				whole = whole || want == len(r.Pos)+len(r.Tests)+len(r.Neg)
			}
			if rest && whole != e.Has(goal) {
				t.Errorf("at rest: %v is in memory: %v, reached: %v", goal, e.Has(goal), whole)
			}
		}
		if rest {
			rested++
		}
		if seen(e) != was {
			t.Error("the engine is another")
		}
		if t.Failed() {
			src, facts := e.Texts()
			t.Fatalf("%q, %q, memory %q", src, facts, e.Model())
		}
	}
	if rested < 300 || counts[1] < 7000 || counts[2] < 2000 || counts[3] < 1000 || counts[4] < 150 || counts[5] < 60 {
		t.Errorf("%d at rest, reached %v", rested, counts)
	}
}

// Lines of any form: no call panics, and Check, Depth and Text say what the chapter's words do.
func TestAnyLines(t *testing.T) {
	w := newWild(21, "1", "x", `"x"`, "1", "x")
	odd := []int{-1 << 63, -2, -1, 0, 1, 2, 3, 1<<63 - 1}
	some := func() int { return odd[w.Intn(len(odd))] }
	constant := func() api.Const {
		return []api.Const{{}, name("x"), number(1), {Kind: some(), Int: int64(some()), Text: w.of("", "x", "X")}}[w.Intn(4)]
	}
	for range 4000 {
		e := w.engine(t)
		if e == nil {
			continue
		}
		var lines []api.Line
		for range w.Intn(5) {
			l := api.Line{Fact: api.Fact{Pred: w.of("a", "b", "f", "g", "G", "")}, Rule: some()}
			for range w.Intn(3) {
				l.Fact.Args = append(l.Fact.Args, constant())
			}
			for range w.Intn(3) {
				l.Subst = append(l.Subst, constant())
			}
			for range w.Intn(3) {
				l.From = append(l.From, some())
			}
			lines = append(lines, l)
		}
		c := e.Core()
		for range 3 {
			w.spoilCore(&c)
		}
		wantCheck(t, c, e.Facts(), lines, plainCheck(c, e.Facts(), lines))
		early := func(num int, l api.Line) bool {
			return l.Rule != -1 && slices.ContainsFunc(l.From, func(from int) bool { return from < 0 || from >= num })
		}
		wrong := false
		for num, l := range lines {
			wrong = wrong || early(num, l)
		}
		if !wrong {
			wantDepth(t, lines, plainDepths(lines)...)
		} else if depths, errno := why.Depth(lines); len(depths) > 0 || errno != api.ErrArg {
			t.Errorf("Depth(%v) = %v, %v", lines, depths, errno)
		}
		none := slices.ContainsFunc(lines, func(l api.Line) bool {
			return print.Fact(l.Fact) == "" || l.Rule != -1 && slices.ContainsFunc(l.Subst, func(c api.Const) bool { return !sym.Valid(c) })
		})
		if none {
			wantText(t, lines, "")
		} else {
			wantText(t, lines, plainText(lines))
		}
		for _, l := range lines {
			if got, errno := why.Prove(e, l.Fact); (errno == api.OK) != has(e.Facts(), l.Fact) || (errno == api.OK) != (len(got) > 0) {
				t.Errorf("Prove(%v) = %v, %v", l.Fact, got, errno)
			}
			why.Against(e, l.Rule, l.Subst)
			if l.Rule >= 0 && l.Rule < len(e.Core().Rules) {
				wantReach(t, e, l.Rule, l.Fact, plainReach(e, l.Rule, l.Fact))
			}
		}
	}
}
