package engine_test

import (
	"fmt"
	"math"
	"slices"
	"strings"

	"edict/api"
	"edict/print"
	"edict/sym"
)

// An engine by the words of the chapter and of DOC.md: texts' parts as they stand, all substitutions gone through at each question.

type plainRule struct {
	head    api.Atom
	chain   []api.Literal // the _ of positive atoms have names of their own here
	vars    []string
	stratum int
}

type plain struct {
	consts []api.Const // sorted
	rules  []plainRule
	given  []api.Fact
	memory []api.Fact
	texts  map[string]int // by a fact's text: its number in memory
	fired  map[string]int
	log    []string
	steps  uint64 // since the beginning or the last reset
}

func constOf(t api.Term) api.Const { return api.Const{Kind: t.Kind, Int: t.Int, Text: t.Text} }

func factOf(a api.Atom) api.Fact {
	f := api.Fact{Pred: a.Pred}
	for _, t := range a.Args {
		f.Args = append(f.Args, constOf(t))
	}
	return f
}

// newPlain is for texts that are accepted.
func newPlain(p api.Program, facts []api.Atom) *plain {
	m := &plain{}
	levels := plainLevels(p)
	for _, c := range p.Clauses {
		m.takeAtom(c.Head)
		for _, l := range c.Body {
			m.takeAtom(l.Atom)
			if l.Kind == api.LTest {
				m.takeAtom(api.Atom{Args: []api.Term{l.Left, l.Right}})
			}
		}
		if len(c.Body) == 0 {
			m.give(factOf(c.Head))
			continue
		}
		m.rules = append(m.rules, newPlainRule(c, levels[c.Head.Pred]))
	}
	for _, a := range facts {
		m.takeAtom(a)
		m.give(factOf(a))
	}
	slices.SortFunc(m.consts, sym.Compare)
	m.reset()
	return m
}

func (m *plain) takeAtom(a api.Atom) {
	for _, t := range a.Args {
		if t.Kind != api.KVar && !slices.Contains(m.consts, constOf(t)) {
			m.consts = append(m.consts, constOf(t))
		}
	}
}

func (m *plain) give(f api.Fact) {
	if !slices.ContainsFunc(m.given, func(other api.Fact) bool { return print.Fact(other) == print.Fact(f) }) {
		m.given = append(m.given, f)
	}
}

func newPlainRule(c api.Clause, stratum int) plainRule {
	r := plainRule{head: c.Head, stratum: stratum}
	for _, kind := range []int{api.LPos, api.LTest, api.LNeg} {
		for _, l := range c.Body {
			if l.Kind != kind {
				continue
			}
			l.Atom.Args = slices.Clone(l.Atom.Args)
			for place, t := range l.Atom.Args {
				if kind == api.LPos && t.Kind == api.KVar && t.Text == "_" {
					t.Text = fmt.Sprint("_", len(r.vars))
					l.Atom.Args[place] = t
				}
				if kind == api.LPos && t.Kind == api.KVar && !slices.Contains(r.vars, t.Text) {
					r.vars = append(r.vars, t.Text)
				}
			}
			r.chain = append(r.chain, l)
		}
	}
	return r
}

// plainLevels is the least levels: raised as long as a rule asks for it. Where there are none they would rise without end.
func plainLevels(p api.Program) map[string]int {
	levels := map[string]int{}
	for round := 0; round <= api.MaxPreds+1; round++ {
		rose := false
		for _, c := range p.Clauses {
			for _, l := range c.Body {
				if l.Kind == api.LTest {
					continue
				}
				least := levels[l.Atom.Pred]
				if l.Kind == api.LNeg {
					least++
				}
				if levels[c.Head.Pred] < least {
					levels[c.Head.Pred], rose = least, true
				}
			}
		}
		if !rose {
			return levels
		}
	}
	return nil
}

func (m *plain) reset() {
	m.memory, m.texts, m.fired, m.log, m.steps = nil, map[string]int{}, map[string]int{}, nil, 0
	for _, f := range m.given {
		m.bring(f)
	}
}

func (m *plain) bring(f api.Fact) {
	m.texts[print.Fact(f)] = len(m.memory)
	m.memory = append(m.memory, f)
}

func (m *plain) has(f api.Fact) bool {
	_, is := m.texts[print.Fact(f)]
	return is
}

func (m *plain) fork() *plain {
	second := *m
	second.memory, second.log = slices.Clone(m.memory), slices.Clone(m.log)
	second.texts, second.fired = map[string]int{}, map[string]int{}
	for text, num := range m.texts {
		second.texts[text] = num
	}
	for text, num := range m.fired {
		second.fired[text] = num
	}
	return &second
}

// under is an atom's fact, its variables by their names.
func (r plainRule) under(a api.Atom, subst []api.Const) api.Fact {
	f := api.Fact{Pred: a.Pred}
	for _, t := range a.Args {
		f.Args = append(f.Args, r.value(t, subst))
	}
	return f
}

func (r plainRule) value(t api.Term, subst []api.Const) api.Const {
	if t.Kind == api.KVar {
		return subst[slices.Index(r.vars, t.Text)]
	}
	return constOf(t)
}

func (m *plain) satisfies(r plainRule, l api.Literal, subst []api.Const) bool {
	switch l.Kind {
	case api.LPos:
		return m.has(r.under(l.Atom, subst))
	case api.LNeg:
		return !m.has(r.under(l.Atom, subst))
	}
	by := sym.Compare(r.value(l.Left, subst), r.value(l.Right, subst))
	switch l.Op {
	case api.OpEq:
		return by == 0
	case api.OpNe:
		return by != 0
	case api.OpLt:
		return by < 0
	case api.OpLe:
		return by <= 0
	case api.OpGt:
		return by > 0
	}
	return by >= 0
}

// substs is all lists of so many constants, sorted.
func (m *plain) substs(count int) [][]api.Const {
	all := [][]api.Const{{}}
	for range count {
		var longer [][]api.Const
		for _, s := range all {
			for _, c := range m.consts {
				longer = append(longer, append(slices.Clone(s), c))
			}
		}
		all = longer
	}
	return all
}

// matches is the substitutions of the variables of a chain's first conditions that satisfy these, sorted.
func (m *plain) matches(r plainRule, conditions int) (found [][]api.Const) {
	for _, s := range m.substs(r.width(conditions)) {
		fails := func(l api.Literal) bool { return !m.satisfies(r, l, s) }
		if !slices.ContainsFunc(r.chain[:conditions], fails) {
			found = append(found, s)
		}
	}
	return found
}

// width is how many variables the first conditions of a chain bind.
func (r plainRule) width(conditions int) int {
	most := 0
	for _, l := range r.chain[:conditions] {
		for _, t := range l.Atom.Args {
			if t.Kind == api.KVar && l.Kind == api.LPos {
				most = max(most, slices.Index(r.vars, t.Text)+1)
			}
		}
	}
	return most
}

// nodeText is a chain's first conditions but for the variables' names: rules share the nodes of such as are the same.
func (r plainRule) nodeText(conditions int) string {
	var text strings.Builder
	term := func(t api.Term) {
		fmt.Fprint(&text, " ", t.Kind, " ", t.Int, " ")
		if t.Kind == api.KVar {
			fmt.Fprint(&text, slices.Index(r.vars, t.Text))
		} else {
			fmt.Fprintf(&text, "%q", t.Text)
		}
	}
	for _, l := range r.chain[:conditions] {
		fmt.Fprint(&text, ";", l.Kind, l.Op, l.Atom.Pred)
		for _, t := range l.Atom.Args {
			term(t)
		}
		if l.Kind == api.LTest {
			term(l.Left)
			term(l.Right)
		}
	}
	return text.String()
}

// live is the live tokens of the memory.
func (m *plain) live() (count uint64) {
	met := map[string]int{}
	for _, r := range m.rules {
		for k := 1; k <= len(r.chain); k++ {
			if text := r.nodeText(k); met[text] == 0 {
				met[text] = 1
				count += uint64(len(m.matches(r, k)))
			}
		}
	}
	return count
}

type plainAct struct {
	rule  int
	subst []api.Const
}

func (a plainAct) text() string { return actText(a.rule, a.subst) }

func (m *plain) conflict() (acts []plainAct) {
	for num, r := range m.rules {
		for _, s := range m.matches(r, len(r.chain)) {
			acts = append(acts, plainAct{num, s})
		}
	}
	return acts
}

func (m *plain) eligible() (acts []plainAct) {
	lowest := math.MaxInt
	for _, a := range m.conflict() {
		stratum := m.rules[a.rule].stratum
		if _, fired := m.fired[a.text()]; fired || stratum > lowest {
			continue
		}
		if stratum < lowest {
			lowest, acts = stratum, nil
		}
		acts = append(acts, a)
	}
	return acts
}

// run is the chapter's turns, one behind the other.
func (m *plain) run(picks []int, steps, mem uint64) (out api.Outcome) {
	for {
		eligible := m.eligible()
		switch {
		case m.live() > mem:
			out.Stop = api.MemBudget
		case len(eligible) == 0:
			out.Stop = api.Done
		case out.Steps == steps:
			out.Stop = api.StepBudget
		default:
			pick := 0
			if out.Steps < uint64(len(picks)) {
				pick = picks[out.Steps]
			}
			k := len(eligible)
			if !m.take(eligible[(pick%k+k)%k], mem, &out) {
				out.Stop = api.MemBudget
			}
		}
		if out.Stop != 0 {
			out.Live = m.live()
			if mem < math.MaxUint64 {
				out.Live = min(out.Live, mem+1)
			}
			return out
		}
	}
}

// take is a turn's last part: false where there is no room.
func (m *plain) take(a plainAct, mem uint64, out *api.Outcome) bool {
	r := m.rules[a.rule]
	head := r.under(r.head, a.subst)
	line := a.text() + ": " + print.Fact(head)
	if !m.has(head) {
		m.bring(head)
		if m.live() > mem {
			m.memory = m.memory[:len(m.memory)-1]
			delete(m.texts, print.Fact(head))
			return false
		}
		out.Fresh++
		line += " +"
	}
	m.fired[a.text()] = 1
	m.log = append(m.log, line)
	m.steps++
	out.Steps++
	return true
}

// perfect is the perfect model, level by level.
func (m *plain) perfect() []string {
	at := m.fork()
	at.reset()
	highest := 0
	for _, r := range m.rules {
		highest = max(highest, r.stratum)
	}
	for level := 0; level <= highest; level++ {
		for grew := true; grew; {
			grew = false
			for _, r := range m.rules {
				if r.stratum != level {
					continue
				}
				for _, s := range at.matches(r, len(r.chain)) {
					if head := r.under(r.head, s); !at.has(head) {
						at.bring(head)
						grew = true
					}
				}
			}
		}
	}
	return at.lines()
}

// lines is the memory's facts, sorted.
func (m *plain) lines() (all []string) {
	for _, f := range m.memory {
		all = append(all, print.Fact(f))
	}
	slices.Sort(all)
	return all
}
