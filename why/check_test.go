package why_test

import (
	"slices"
	"testing"

	"edict/api"
	"edict/why"
)

// Examples 3 and 4
func TestCheck(t *testing.T) {
	e := rested(t, ways, "")
	c, memory := e.Core(), e.Facts()
	lines := []api.Line{given("e(a, b)"), given("e(b, c)"), by("t(b, c)", 0, names("b", "c"), 1), by("t(a, c)", 1, names("a", "b", "c"), 0, 2)}
	wantCheck(t, c, memory, nil, -1)
	wantCheck(t, c, memory, lines, -1)
	turned := slices.Clone(lines)
	turned[3].From = []int{2, 0}
	wantCheck(t, c, memory, turned, 3)
	wantCheck(t, c, memory, []api.Line{lines[0], lines[1], by("t(a, c)", 1, names("a", "b", "c"), 0, 2)}, 2)
	other := slices.Clone(lines)
	other[0] = given("e(a, c)")
	wantCheck(t, c, memory, other, 0)
	once := []api.Line{given("n(c)"), by("s(c)", 2, names("c"), 0)}
	wantCheck(t, c, memory, once, -1)
	wantCheck(t, c, append(e.Facts(), fact("t(c, c)")), once, 1)
	wantCheck(t, c, append(facts("t(c, c)"), e.Facts()...), once, 1)
}

// Whether a line's own fact is in memory is not asked, nor whether one fact has several lines.
func TestCheckAsksNoMore(t *testing.T) {
	c := rested(t, ways, "").Core()
	lines := []api.Line{given("n(a)"), given("n(a)"), by("s(a)", 2, names("a"), 0), by("s(a)", 2, names("a"), 1), given("e(a, b)"), by("t(a, b)", 0, names("a", "b"), 4)}
	wantCheck(t, c, nil, lines, -1) // t(a, c), that is negated, is in no memory here
	wantCheck(t, c, facts("s(a)", "t(c, a)", "t(a)", "t(a, c, c)", `t("a", c)`, `t(a, "c")`, "u(a, c)", "not0(a, c)"), lines, -1)
	wantCheck(t, c, facts("s(a)", "t(a, c)"), lines, 2)
}

// Wrong lines, each behind two that are right.
func TestWrongLines(t *testing.T) {
	e := rested(t, ways, "")
	c, memory := e.Core(), e.Facts()
	ahead := []api.Line{given("n(c)"), given("e(b, c)")}
	for _, l := range []api.Line{
		{Fact: fact("n(c)"), Rule: -1, From: []int{0}},
		{Fact: fact("n(c)"), Rule: -1, Subst: names("c")},
		{Fact: fact("n(c)"), Rule: -2}, {Fact: fact("n(c)"), Rule: 3}, {Fact: fact("n(c)"), Rule: 1 << 40}, {Fact: fact("n(c)"), Rule: -1 << 62},
		given("n(d)"), given("n"), given("n(c, c)"), given(`n("c")`), given("e(c)"), given("t(b, c)"), given("e(c, b)"), {Rule: -1}, {},
		{Fact: api.Fact{Pred: "n", Args: []api.Const{{Kind: api.KName, Int: 1, Text: "c"}}}, Rule: -1},
		by("s(c)", 2, nil, 0), by("s(c)", 2, names("c", "c"), 0), by("s(c)", 2, names("d"), 0), by("s(c)", 2, []api.Const{{}}, 0), by("s(c)", 2, []api.Const{{Kind: api.KText, Text: "c"}}, 0),
		by("s(c)", 2, names("c")), by("s(c)", 2, names("c"), 0, 0), by("s(c)", 2, names("c"), 1), by("s(c)", 2, names("c"), 2), by("s(c)", 2, names("c"), 3), by("s(c)", 2, names("c"), -1), by("s(c)", 2, names("c"), -1<<63), by("s(c)", 2, names("c"), 1<<63-1),
		by("s(b)", 2, names("c"), 0), by("s", 2, names("c"), 0), by("s(c, c)", 2, names("c"), 0), by("t(c)", 2, names("c"), 0), by(`s("c")`, 2, names("c"), 0), {Rule: 2, Subst: names("c"), From: []int{0}},
		by("s(a)", 2, names("a"), 0), by("t(c, b)", 0, names("c", "b"), 1), by("t(b, c)", 0, names("c", "b"), 1), by("t(b, c)", 1, names("b", "c"), 1), by("t(b, c)", 0, names("b", "c"), 0),
	} {
		wantCheck(t, c, memory, slices.Concat(ahead, []api.Line{l}), 2)
		wantCheck(t, c, memory, slices.Concat(ahead, []api.Line{l, l}, ahead), 2) // the first one is told
		wantCheck(t, c, memory, []api.Line{l}, 0)
	}
	wantCheck(t, c, memory, append(ahead, by("s(c)", 2, names("c"), 0), by("t(b, c)", 0, names("b", "c"), 1)), -1)
	// A test that fails; a negated atom that is in memory.
	wantCheck(t, c, memory, []api.Line{given("n(b)"), by("s(b)", 2, names("b"), 0)}, 1)
	wantCheck(t, c, nil, []api.Line{given("n(b)"), by("s(b)", 2, names("b"), 0)}, 1)
	wantCheck(t, c, memory, []api.Line{given("n(a)"), by("s(a)", 2, names("a"), 0)}, 1)
	// A line of its own number, or of one behind it.
	wantCheck(t, c, memory, []api.Line{by("t(a, b)", 0, names("a", "b"), 1), given("e(a, b)")}, 0)
	wantCheck(t, c, memory, []api.Line{given("e(a, b)"), by("t(b, c)", 1, names("b", "c", "c"), 0, 1)}, 1)
}

// all has a rule with something of each kind.
const all = "p(X, k) :- q(X, Y), q(Y, k), X < Y, Y != 3, not r(X), not r(Y)."

// Cores whose rules point at nothing somewhere: the line is not right.
func TestBrokenCores(t *testing.T) {
	e := rested(t, all, "q(1, 2). q(2, k). r(k).")
	lines := []api.Line{given("q(1, 2)"), given("q(2, k)"), by("p(1, k)", 0, []api.Const{number(1), number(2)}, 0, 1)}
	wantCheck(t, e.Core(), e.Facts(), lines, -1)
	for num, spoil := range []func(r *api.Rule){
		func(r *api.Rule) { r.Head.Pred = -1 },
		func(r *api.Rule) { r.Head.Pred = 3 },
		func(r *api.Rule) { r.Head.Args = r.Head.Args[:1] },
		func(r *api.Rule) { r.Head.Args[0].N = -1 },
		func(r *api.Rule) { r.Head.Args[0].N = 2 },
		func(r *api.Rule) { r.Head.Args[1].N = -1 },
		func(r *api.Rule) { r.Head.Args[1].N = 4 },
		func(r *api.Rule) { r.Pos[0].Pred = -1 },
		func(r *api.Rule) { r.Pos[1].Pred = 1 << 50 },
		func(r *api.Rule) { r.Pos[1].Args = r.Pos[1].Args[:1] },
		func(r *api.Rule) { r.Pos[1].Args = append(r.Pos[1].Args, api.Slot{}) },
		func(r *api.Rule) { r.Pos[1].Args[0].N = 1 << 60 },
		func(r *api.Rule) { r.Pos[1].Args[1].N = -1 << 60 },
		func(r *api.Rule) { r.Tests[0].Op = 0 },
		func(r *api.Rule) { r.Tests[0].Op = 7 },
		func(r *api.Rule) { r.Tests[1].Op = -1 },
		func(r *api.Rule) { r.Tests[0].Left.N = -1 },
		func(r *api.Rule) { r.Tests[0].Left.N = 2 },
		func(r *api.Rule) { r.Tests[1].Right.N = -1 },
		func(r *api.Rule) { r.Tests[1].Right.N = 4 },
		func(r *api.Rule) { r.Tests[1] = api.Test{Op: api.OpEq, Left: api.Slot{N: 9}, Right: api.Slot{N: 9}} },
		func(r *api.Rule) { r.Neg[0].Pred = -1 },
		func(r *api.Rule) { r.Neg[1].Pred = 3 },
		func(r *api.Rule) { r.Neg[0].Args = nil },
		func(r *api.Rule) { r.Neg[1].Args = append(r.Neg[1].Args, api.Slot{Var: true}) },
		func(r *api.Rule) { r.Neg[1].Pred = 1 }, // q has two places
		func(r *api.Rule) { r.Neg[0].Args[0].N = -1 },
		func(r *api.Rule) { r.Neg[1].Args[0].N = 2 },
		func(r *api.Rule) { r.Neg[1].Args[0] = api.Slot{N: 4} },
		func(r *api.Rule) { r.Vars = r.Vars[:1] },
		func(r *api.Rule) { r.Vars = append(r.Vars, "Z") },
		func(r *api.Rule) { r.Pos = r.Pos[:1] },
		func(r *api.Rule) { r.Neg[0].Args[0] = api.Slot{N: 0} }, // k
	} {
		c := e.Core()
		spoil(&c.Rules[0])
		for _, memory := range [][]api.Fact{e.Facts(), facts("r(k)"), append(facts("r(k)"), api.Fact{Pred: "r"}, api.Fact{})} {
			if got := why.Check(c, memory, lines); got != 2 {
				t.Errorf("spoilt in way %d: Check = %d", num, got)
			}
		}
	}
}

// With a predicate or a constant the less: what is right as long as nothing points there.
func TestCutCores(t *testing.T) {
	e := rested(t, all, "q(1, 2). q(2, k). r(k).")
	lines := []api.Line{given("q(1, 2)"), given("q(2, k)"), by("p(1, k)", 0, []api.Const{number(1), number(2)}, 0, 1)}
	wantCheck(t, api.Core{}, nil, lines, 0)
	wantCheck(t, api.Core{}, e.Facts(), nil, -1)
	c := e.Core()
	c.Preds = c.Preds[:2] // r is gone
	wantCheck(t, c, nil, lines, 2)
	c = e.Core()
	c.Preds = c.Preds[:1]
	wantCheck(t, c, nil, lines, 0)
	c = e.Core()
	c.Consts = c.Consts[:3] // k, 3, 1
	wantCheck(t, c, nil, lines, 0)
	wantCheck(t, c, nil, append(lines[1:], lines...), 0)
	c = e.Core()
	c.Facts = c.Facts[1:]
	wantCheck(t, c, nil, lines, 0)
	c = e.Core()
	c.Facts[0].Args = c.Facts[0].Args[:1]
	wantCheck(t, c, nil, lines, 0)
	c.Preds[1].Arity = 1
	wantCheck(t, c, nil, []api.Line{given("q(1)"), given("q(2, k)")}, 1)
	c = e.Core()
	c.Facts[0].Pred, c.Facts[1].Args[0] = -1, 99
	wantCheck(t, c, nil, []api.Line{given("r(k)"), given("q(1, 2)")}, 1)
	wantCheck(t, c, nil, []api.Line{given("r(k)"), given("q(2, k)")}, 1)
	wantCheck(t, c, nil, []api.Line{given("r(k)"), {Rule: -1}}, 1) // a row that is no fact is not the zero Fact either
	c.Preds = append(c.Preds, api.Pred{})
	c.Facts[1] = api.Row{Pred: 3}
	wantCheck(t, c, nil, []api.Line{given("r(k)"), {Rule: -1}}, -1)
}

// A variable that stands nowhere has its constant too, and it is one of the core's.
func TestIdleVariables(t *testing.T) {
	c := rested(t, "p(X) :- q(X). r :- not s.", "q(1). q(k).").Core()
	c.Rules[0].Vars = append(c.Rules[0].Vars, "Y")
	c.Rules[1].Vars = append(c.Rules[1].Vars, "Y", "Z")
	p := func(subst ...api.Const) []api.Line { return []api.Line{given("q(k)"), by("p(k)", 0, subst, 0)} }
	r := func(subst ...api.Const) []api.Line { return []api.Line{given("q(k)"), by("r", 1, subst)} }
	wantCheck(t, c, nil, p(name("k"), number(1)), -1)
	wantCheck(t, c, nil, p(name("k"), number(2)), 1)
	wantCheck(t, c, nil, p(name("k"), api.Const{}), 1)
	wantCheck(t, c, nil, p(name("k")), 1)
	wantCheck(t, c, nil, r(name("k"), number(1)), -1)
	wantCheck(t, c, nil, r(name("k"), api.Const{Kind: api.KText, Text: "k"}), 1)
	wantCheck(t, c, nil, r(number(2), number(1)), 1)
	wantCheck(t, c, nil, r(number(1)), 1)
}

// Nothing is asked of names and constants but that they are the same: a fact that no text can have may be right, too.
func TestFactsWithoutText(t *testing.T) {
	bad, worse := api.Const{Kind: 9, Int: 4, Text: "x"}, api.Const{Kind: 9, Int: 4, Text: "y"}
	v := func(n int) api.Slot { return api.Slot{Var: true, N: n} }
	c := api.Core{
		Preds:  []api.Pred{{Name: "P", Arity: 1}, {Name: "", Arity: 2}, {Name: "not", Arity: 1}},
		Consts: []api.Const{bad, worse, {}},
		Rules: []api.Rule{
			{Head: api.Pattern{Pred: 1, Args: []api.Slot{v(1), v(0)}}, Pos: []api.Pattern{{Pred: 0, Args: []api.Slot{v(0)}}, {Pred: 0, Args: []api.Slot{v(1)}}}, Neg: []api.Pattern{{Pred: 2, Args: []api.Slot{v(0)}}}, Vars: []string{"X", "X"}},
			{Head: api.Pattern{Pred: 2, Args: []api.Slot{v(0)}}, Pos: []api.Pattern{{Pred: 0, Args: []api.Slot{v(0)}}}, Tests: []api.Test{{Op: api.OpEq, Left: v(0), Right: v(0)}}, Vars: []string{""}},
		},
		Facts: []api.Row{{Pred: 0, Args: []int{0}}, {Pred: 0, Args: []int{1}}},
	}
	p := func(x api.Const) api.Fact { return api.Fact{Pred: "P", Args: []api.Const{x}} }
	not := func(x api.Const) api.Fact { return api.Fact{Pred: "not", Args: []api.Const{x}} }
	lines := []api.Line{
		{Fact: p(bad), Rule: -1}, {Fact: p(worse), Rule: -1},
		{Fact: api.Fact{Args: []api.Const{worse, bad}}, Rule: 0, Subst: []api.Const{bad, worse}, From: []int{0, 1}},
	}
	wantCheck(t, c, nil, lines, -1)
	wantCheck(t, c, []api.Fact{not(worse), not(api.Const{}), {Pred: "not"}, {Pred: "not", Args: []api.Const{bad, bad}}, p(bad), {Pred: "no", Args: []api.Const{bad}}}, lines, -1)
	wantCheck(t, c, []api.Fact{p(worse), not(bad)}, lines, 2)
	wantCheck(t, c, nil, append(lines[:1:1], api.Line{Fact: p(api.Const{}), Rule: -1}), 1)
	wantCheck(t, c, nil, append(lines[:1:1], api.Line{Fact: p(api.Const{Kind: 9, Int: 5, Text: "x"}), Rule: -1}), 1)
	// No test holds between what is no constant.
	wantCheck(t, c, nil, append(lines[:2:2], api.Line{Fact: not(bad), Rule: 1, Subst: []api.Const{bad}, From: []int{0}}), 2)
	// Two predicates with one name, and a constant that stands twice, are the same in names.
	c.Preds[2].Name, c.Consts[2] = "P", bad
	c.Rules[1].Tests = nil
	wantCheck(t, c, nil, append(lines[:1:1], api.Line{Fact: p(bad), Rule: 1, Subst: []api.Const{bad}, From: []int{0}}), -1)
	wantCheck(t, c, []api.Fact{p(bad)}, lines, 2) // the negated one has this name now
}

// Facts that are not the same, though parts of them laid end to end would be.
func TestFactsAlike(t *testing.T) {
	text := func(s string) api.Const { return api.Const{Kind: api.KText, Text: s} }
	alike := []api.Fact{
		{Pred: "p"}, {Pred: "p", Args: []api.Const{{}}}, {Pred: "p", Args: []api.Const{{}, {}}}, {Pred: "p 0 0 0:"}, {Pred: ""}, {Pred: "p ", Args: []api.Const{{}}}, {Pred: "1:p"}, {Pred: "\x00p"},
		{Pred: "p", Args: []api.Const{text("a"), text("b")}}, {Pred: "p", Args: []api.Const{text("a\", \"b")}}, {Pred: "p", Args: []api.Const{text("ab"), text("")}}, {Pred: "p", Args: []api.Const{text(""), text("ab")}}, {Pred: "p", Args: []api.Const{text("a 3 0 1:b")}},
		{Pred: "p", Args: []api.Const{{Kind: 1, Int: 12}}}, {Pred: "p", Args: []api.Const{{Kind: 11, Int: 2}}}, {Pred: "p", Args: []api.Const{{Kind: 1, Int: 1, Text: "2"}}}, {Pred: "p", Args: []api.Const{{Kind: 1, Int: -12}}}, {Pred: "p", Args: []api.Const{{Kind: -1, Int: 12}}}, {Pred: "p", Args: []api.Const{{Kind: 12, Int: 1}}},
		{Pred: "p", Args: []api.Const{text("a 3 0 b")}}, {Pred: "p", Args: []api.Const{text("a 3 0 :b")}}, {Pred: "p", Args: []api.Const{text("a 30b")}}, {Pred: "p", Args: []api.Const{text("1"), text("xxxxx")}}, {Pred: "p", Args: []api.Const{text(" 3 0 5xxxxx")}},
		{Pred: "p", Args: []api.Const{name("a")}}, {Pred: "p", Args: []api.Const{text("a")}}, {Pred: "p", Args: []api.Const{{Kind: 4, Text: "a"}}}, {Pred: "pa"}, {Pred: "p(a)"},
	}
	for num, f := range alike {
		// A core in which this fact is the one that is given, and the one that is negated.
		c := api.Core{Preds: []api.Pred{{Name: f.Pred, Arity: len(f.Args)}, {Name: "q"}}, Consts: f.Args, Rules: []api.Rule{{Head: api.Pattern{Pred: 1}, Neg: []api.Pattern{{Pred: 0}}}}, Facts: []api.Row{{Pred: 0}}}
		for place := range f.Args {
			c.Rules[0].Neg[0].Args = append(c.Rules[0].Neg[0].Args, api.Slot{N: place})
			c.Facts[0].Args = append(c.Facts[0].Args, place)
		}
		for other, g := range alike {
			is, blocked := 0, -1
			if num == other {
				is, blocked = -1, 0
			}
			wantCheck(t, c, nil, []api.Line{{Fact: g, Rule: -1}}, is)
			wantCheck(t, c, []api.Fact{g}, []api.Line{{Fact: fact("q"), Rule: 0}}, blocked)
		}
	}
}
