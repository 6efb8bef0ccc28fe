package update_test

import (
	"fmt"
	"math"
	"strings"
	"testing"

	"edict/api"
	"edict/engine"
	"edict/update"
)

func TestExample1(t *testing.T) {
	k := open(t, ways, "")
	wantFacts(t, "Given", k.Given(), "edge(a, b). edge(b, c).")
	wantFacts(t, "Facts", k.Facts(), model)
}

func TestExamples2And3(t *testing.T) {
	k := open(t, ways, "")
	came := "edge(c, a). path(a, a). path(b, a). path(b, b). path(c, a). path(c, b). path(c, c)."
	went := "apart(a, a). apart(b, a). apart(b, b). apart(c, a). apart(c, b). apart(c, c)."
	change(t, k, "", "edge(c, a).", came, went)
	change(t, k, "edge(c, a).", "", went, came)
	wantFacts(t, "Given", k.Given(), "edge(a, b). edge(b, c).")
	wantFacts(t, "Facts", k.Facts(), model)
}

func TestExample4(t *testing.T) {
	k := open(t, ways, "")
	change(t, k, "edge(a, b).", "", "", "apart(a, a). apart(b, a). apart(c, a). edge(a, b). node(a). path(a, b). path(a, c).")
}

func TestExample5(t *testing.T) {
	k := open(t, ways, "")
	change(t, k, "", "path(a, b).", "", "")
	wantFacts(t, "Given", k.Given(), "edge(a, b). edge(b, c). path(a, b).")
	change(t, k, "edge(a, b).", "", "", "apart(a, a). apart(b, a). apart(c, a). edge(a, b). node(a).")
	if !k.Has(fact("path(a, b)")) || !k.Has(fact("path(a, c)")) || k.Has(fact("edge(a, b)")) {
		t.Error("Has")
	}
}

func TestExample6(t *testing.T) {
	k := open(t, ways, "")
	change(t, k, "edge(a, b).", "edge(a, b).", "", "")
	for _, c := range []struct {
		drop, add string
		want      api.Errno
	}{
		{"edge(a, b).", "edge(a, b). edge(b, c).", api.ErrTwice},
		{"", "edge(a, b).", api.ErrTwice},
		{"edge(c, c).", "", api.ErrNone},
		{"path(a, b).", "", api.ErrNone},
		{"", "edge(a).", api.ErrClash},
		{"", "p(1). p(1, 2).", api.ErrClash},
		{"edge(c, c).", "edge(a, b).", api.ErrNone},
	} {
		refused(t, k, facts(c.drop), facts(c.add), c.want)
	}
	refused(t, k, facts("edge(c, c)."), []api.Fact{{Pred: "Edge"}}, api.ErrArg)
}

func TestExample7(t *testing.T) {
	k := open(t, "p(1).", "")
	change(t, k, "p(1).", "p(1, 2).", "p(1, 2).", "p(1).")
	refused(t, k, nil, facts("p(1)."), api.ErrClash)
}

func TestExample9(t *testing.T) {
	k := open(t, "p :- not q.", "")
	wantFacts(t, "Facts", k.Facts(), "p.")
	change(t, k, "", "q.", "q.", "p.")
	change(t, k, "q.", "", "p.", "q.")
}

func TestExample10(t *testing.T) {
	if k, fault := update.Open("p(X).", ""); k != nil || fault != (api.Fault{Code: api.ErrRange, Off: 2}) {
		t.Errorf("Open = %v, %v", k, fault)
	}
}

// U1: what Load refuses Open refuses, with the same fault; what it accepts Open accepts.
func TestOpenRefusesWhatLoadRefuses(t *testing.T) {
	long := strings.Repeat(" ", api.MaxSource+1)
	refusals := 0
	for _, src := range []string{"", "p.", "p(X).", "p(", "p :- q, r(", "win(X) :- move(X, Y), not win(Y).", "p(X) :- q(Y).", "p(1, 2). p(1).", long, long[1:], ways, "p(X) :- q(X), not p(X)."} {
		for _, text := range []string{"", "p(1).", "p(", "move(a, b).", "p(X).", "q(1).", "edge(a).", long, long[1:], "@"} {
			e, _, want := engine.Load(src, text)
			k, fault := update.Open(src, text)
			if fault != want || (k == nil) != (e == nil) {
				t.Errorf("Open(%.40q, %.40q) = %v, %v, want %v", src, text, k, fault, want)
			}
			if k == nil {
				refusals++
				continue
			}
			e.Run(nil, math.MaxUint64, math.MaxUint64)
			if !sameSet(k.Facts(), e.Facts()) {
				t.Errorf("Open(%.40q, %.40q): Facts = %v, want %v", src, text, k.Facts(), e.Facts())
			}
		}
	}
	if refusals < 60 || refusals > 110 {
		t.Errorf("%d refusals", refusals)
	}
}

func sameSet(fs []api.Fact, gs []api.Fact) bool {
	return len(fs) == len(gs) && len(without(fs, gs)) == 0 && len(without(gs, fs)) == 0
}

func TestNothingIsGiven(t *testing.T) {
	k := open(t, "", "")
	wantFacts(t, "Given", k.Given(), "")
	wantFacts(t, "Facts", k.Facts(), "")
	change(t, k, "", "", "", "")
	change(t, k, "", "p.", "p.", "")
	change(t, k, "p.", "", "", "p.")
	refused(t, k, facts("p."), nil, api.ErrNone)
}

// The given facts are those of both texts, each once, sorted.
func TestGivenFactsOfBothTexts(t *testing.T) {
	k := open(t, "p(b). q :- p(1). p(1). p(a). p(b). r :- q, not s.", `p("x"). p(-3). s2. p(1). a(z). p("").`)
	wantFacts(t, "Given", k.Given(), `a(z). p(-3). p(1). p(a). p(b). p(""). p("x"). s2.`)
	wantFacts(t, "Facts", k.Facts(), `a(z). p(-3). p(1). p(a). p(b). p(""). p("x"). q. r. s2.`)
}

// The order is that of constants, not of texts, and of whole names of predicates.
func TestSorted(t *testing.T) {
	k := open(t, "", "")
	came := `a(10). aB(1). a_(1). ab(1). p(-10, b). p(-9, a). p(2, -1). p(2, b). p(2, ""). p(10, a). p(a, 1). p(aB, 1). p(ab, 1). p("a", 1). p0. pp("\xff"). pp("\xff\x00").`
	change(t, k, "", `pp("\xff\x00"). pp("\xff"). p("a", 1). p(ab, 1). p(aB, 1). p(a, 1). p(10, a). p(2, ""). p(2, b). p(2, -1). p(-9, a). p(-10, b). p0. ab(1). aB(1). a_(1). a(10).`, came, "")
	wantFacts(t, "Given", k.Given(), came)
	wantFacts(t, "Facts", k.Facts(), came)
	change(t, k, came, "", "", came)
}

// A name, a text and an integer with the same bytes are three constants.
func TestConstantsOfEachKindAreApart(t *testing.T) {
	k := open(t, `p(X) :- q(X), X != a. r :- q("1").`, `q(a). q(1).`)
	wantFacts(t, "Facts", k.Facts(), "p(1). q(1). q(a).")
	change(t, k, "", `q("a").`, `p("a"). q("a").`, "")
	refused(t, k, facts(`q("1").`), nil, api.ErrNone)
	change(t, k, "q(1).", `q("1").`, `p("1"). q("1"). r.`, "p(1). q(1).")
	if k.Has(fact("q(1)")) || !k.Has(fact(`q("1")`)) {
		t.Error("Has")
	}
}

// Facts that follow from the rules may be given too: two reasons.
func TestTwoReasons(t *testing.T) {
	k := open(t, "a(X) :- b(X). b(X) :- a(X). c(X) :- d(X), not a(X).", "a(1). d(1). d(2).")
	wantFacts(t, "Facts", k.Facts(), "a(1). b(1). c(2). d(1). d(2).")
	change(t, k, "", "b(1).", "", "")
	change(t, k, "a(1).", "", "", "")
	wantFacts(t, "Given", k.Given(), "b(1). d(1). d(2).")
	change(t, k, "b(1).", "", "c(1).", "a(1). b(1).")
	change(t, k, "", "c(2).", "", "")
	change(t, k, "", "a(2).", "a(2). b(2).", "")
	change(t, k, "c(2).", "", "", "c(2).")
	change(t, k, "d(2). a(2).", "c(2).", "c(2).", "a(2). b(2). d(2).")
}

// What two facts hold up by each other goes when nothing else holds them.
func TestFactsThatHoldEachOtherUp(t *testing.T) {
	k := open(t, "on(X) :- on(Y), wire(Y, X). on(X) :- key(X). dark(X) :- lamp(X), not on(X).", "wire(1, 2). wire(2, 1). wire(2, 3). key(1). lamp(3).")
	change(t, k, "key(1).", "", "dark(3).", "key(1). on(1). on(2). on(3).")
	change(t, k, "", "key(2).", "key(2). on(1). on(2). on(3).", "dark(3).")
	change(t, k, "wire(2, 3).", "lamp(1).", "dark(3). lamp(1).", "on(3). wire(2, 3).")
}

// Levels above one another turn about all the way up.
func TestManyLevels(t *testing.T) {
	var src strings.Builder
	for n := range 40 {
		fmt.Fprintf(&src, "l%d(X) :- base(X), not l%d(X). ", n+1, n)
	}
	k := open(t, src.String(), "base(z).")
	odd := textOf(k.Facts()[1:])
	change(t, k, "", "l0(y).", "l0(y).", "")
	came, went, e := k.Change(nil, facts("l0(z)."))
	if e != api.OK || len(came) != 21 || len(went) != 20 || textOf(went) != odd {
		t.Errorf("Change = %s / %s, %d", textOf(came), textOf(went), e)
	}
	change(t, k, "l0(z).", "", odd, textOf(came))
}

// Rules without positive atoms, rules with constants alone, tests between constants of the rules.
func TestRulesWithoutVariables(t *testing.T) {
	k := open(t, "p(a) :- not q(b), 1 < 2. r(X) :- s(X), X <= m. r(c) :- p(a), not s(z).", "")
	wantFacts(t, "Facts", k.Facts(), "p(a). r(c).")
	change(t, k, "", "s(z).", "s(z).", "r(c).")
	change(t, k, "", "s(m). s(5).", "r(5). r(m). s(5). s(m).", "")
	change(t, k, "s(z).", "q(b).", "q(b).", "p(a). s(z).")
	change(t, k, "", "p(a).", "p(a). r(c).", "")
}

// drop and add are sets, and a fact in both stays given.
func TestChangesAreSets(t *testing.T) {
	k := open(t, ways, "")
	change(t, k, "edge(b, c). edge(b, c).", "edge(b, b). edge(b, b). edge(b, b).", "edge(b, b). path(b, b).", "apart(b, b). apart(c, a). apart(c, b). apart(c, c). edge(b, c). node(c). path(a, c). path(b, c).")
	wantFacts(t, "Given", k.Given(), "edge(a, b). edge(b, b).")
	change(t, k, "edge(a, b). edge(b, b). edge(a, b).", "edge(b, b). edge(b, b). edge(a, b).", "", "")
	wantFacts(t, "Given", k.Given(), "edge(a, b). edge(b, b).")
	change(t, k, "edge(a, b). edge(b, b).", "edge(b, b). edge(a, b). edge(b, c).", "apart(c, a). apart(c, b). apart(c, c). edge(b, c). node(c). path(a, c). path(b, c).", "")
}

// Empty lists are nil lists, of arguments too.
func TestNilAndEmptyAreTheSame(t *testing.T) {
	k := open(t, "p :- not q.", "r.")
	if came, went, e := k.Change([]api.Fact{}, []api.Fact{}); len(came)+len(went) != 0 || e != api.OK {
		t.Errorf("Change = %v, %v, %d", came, went, e)
	}
	if !k.Has(api.Fact{Pred: "r", Args: []api.Const{}}) || !k.Has(api.Fact{Pred: "r"}) {
		t.Error("Has")
	}
	refused(t, k, nil, []api.Fact{{Pred: "r", Args: []api.Const{}}}, api.ErrTwice)
	came, went, e := k.Change([]api.Fact{{Pred: "r"}}, []api.Fact{{Pred: "q", Args: []api.Const{}}, {Pred: "q"}})
	if e != api.OK || textOf(came) != "q." || textOf(went) != "p. r." {
		t.Errorf("Change = %v, %v, %d", came, went, e)
	}
}

func TestHas(t *testing.T) {
	k := open(t, ways, `far("x y", -7).`)
	for _, text := range []string{"edge(a, b)", "path(a, c)", "apart(c, c)", "node(b)", `far("x y", -7)`} {
		if !k.Has(fact(text)) {
			t.Errorf("Has(%s) = false", text)
		}
	}
	for _, text := range []string{"edge(b, a)", "path(a)", "path(a, c, a)", "apart(a, b)", "node(d)", `node("a")`, "far(x, -7)", `far("x y", 7)`, "none", "node"} {
		if k.Has(fact(text)) {
			t.Errorf("Has(%s) = true", text)
		}
	}
	for _, f := range wrong() {
		if k.Has(f) {
			t.Errorf("Has(%v) = true", f)
		}
	}
}

// wrong is facts that may not be given.
func wrong() []api.Fact {
	list := []api.Fact{
		{}, {Pred: ""}, {Pred: "Edge"}, {Pred: "not"}, {Pred: "_p"}, {Pred: "1"}, {Pred: "p q"}, {Pred: "é"}, {Pred: "edge(a, b)"},
		{Pred: strings.Repeat("p", api.MaxName+1)},
		{Pred: "p", Args: make([]api.Const, 1)},
		{Pred: "p", Args: make([]api.Const, api.MaxArity+1)},
		{Pred: "edge", Args: []api.Const{{Kind: api.KName, Text: "a"}, {Kind: api.KVar, Text: "X"}}},
	}
	for _, c := range []api.Const{{Kind: 7}, {Kind: -1}, {Kind: api.KInt, Text: "a"}, {Kind: api.KName, Text: "A"}, {Kind: api.KName, Text: "not"}, {Kind: api.KName, Text: "a", Int: 1},
		{Kind: api.KName, Text: strings.Repeat("a", api.MaxName+1)}, {Kind: api.KText, Text: strings.Repeat("a", api.MaxText+1)}, {Kind: api.KText, Int: 1}, {Kind: api.KVar, Text: "X"}} {
		list = append(list, api.Fact{Pred: "node", Args: []api.Const{c}}, api.Fact{Pred: "p", Args: []api.Const{number(1), c}})
	}
	nine := api.Fact{Pred: "p"}
	for n := range api.MaxArity + 1 {
		nine.Args = append(nine.Args, number(int64(n)))
	}
	return append(list, nine)
}

func TestFactsThatMayNotBeGiven(t *testing.T) {
	k := open(t, ways, "")
	for _, f := range wrong() {
		refused(t, k, []api.Fact{f}, nil, api.ErrArg)
		refused(t, k, nil, []api.Fact{f}, api.ErrArg)
		refused(t, k, facts("edge(c, c)."), append(facts("edge(a, b)."), f), api.ErrArg)
		refused(t, k, append(facts("edge(a, b). edge(c, c)."), f, f), facts("edge(b, c). p(1). p(1, 2)."), api.ErrArg)
		refused(t, k, []api.Fact{f}, []api.Fact{f}, api.ErrArg)
	}
}

// The greatest that may be given.
func TestFactsThatMayJustBeGiven(t *testing.T) {
	k := open(t, ways, "")
	wide := api.Fact{Pred: strings.Repeat("p", api.MaxName)}
	for range api.MaxArity {
		wide.Args = append(wide.Args, number(math.MinInt64))
	}
	long := api.Fact{Pred: "p", Args: []api.Const{
		{Kind: api.KName, Text: strings.Repeat("a", api.MaxName)}, {Kind: api.KText, Text: strings.Repeat("\x00", api.MaxText)}, {Kind: api.KText, Text: "not"}, {Kind: api.KText}, number(math.MaxInt64)}}
	came, _, e := k.Change(nil, []api.Fact{wide, long})
	if e != api.OK || textOf(came) != textOf([]api.Fact{long, wide}) || !k.Has(wide) || !k.Has(long) {
		t.Errorf("Change = %v, %d", came, e)
	}
}

// The first refusal that applies is answered.
func TestOrderOfRefusals(t *testing.T) {
	k := open(t, ways, "")
	for _, c := range []struct {
		drop, add string
		want      api.Errno
	}{
		{"edge(c, c).", "edge(a).", api.ErrNone},
		{"edge(a, b). edge(c, c).", "edge(a, b).", api.ErrNone},
		{"edge(a).", "", api.ErrNone},
		{"other.", "", api.ErrNone},
		{"edge(a, b).", "edge(b, c). edge(a).", api.ErrTwice},
		{"", "edge(a). edge(b, c).", api.ErrTwice},
		{"edge(b, c).", "edge(a, b). edge(b, c).", api.ErrTwice},
		{"edge(a, b). edge(b, c).", "edge(a).", api.ErrClash},
		{"", "path(a, b, c).", api.ErrClash},
		{"", "apart.", api.ErrClash},
		{"edge(a, b).", "edge(a, b). node.", api.ErrClash},
	} {
		refused(t, k, facts(c.drop), facts(c.add), c.want)
	}
}

// An arity is known as long as a rule or a given fact has the predicate.
func TestKnownArities(t *testing.T) {
	k := open(t, "h(X) :- b(X), not n(X, X).", "p(1). p(2).")
	for _, text := range []string{"h.", "h(1, 2).", "b.", "n(1).", "n.", "p.", "p(1, 2)."} {
		refused(t, k, nil, facts(text), api.ErrClash)
	}
	refused(t, k, facts("p(1)."), facts("p(1, 2)."), api.ErrClash)
	refused(t, k, facts("p(1). p(2)."), facts("p(1, 2). p(1)."), api.ErrClash)
	change(t, k, "p(1). p(2).", "p(1, 2). p(2, 1).", "p(1, 2). p(2, 1).", "p(1). p(2).")
	change(t, k, "p(2, 1).", "h(1).", "h(1).", "p(2, 1).")
	refused(t, k, nil, facts("p(1)."), api.ErrClash)
	change(t, k, "p(1, 2).", "", "", "p(1, 2).")
	change(t, k, "h(1).", "p. b(1).", "b(1). p.", "")
	refused(t, k, facts("b(1)."), facts("b."), api.ErrClash)
}

func TestMaxPreds(t *testing.T) {
	var src, more strings.Builder
	for n := range 50 {
		fmt.Fprintf(&src, "h%d(X) :- b(X), not n%d. ", n, n)
	}
	for n := range 27 {
		fmt.Fprintf(&more, "f%d(1). f%d(2). ", n, n)
	}
	k := open(t, src.String(), more.String())
	refused(t, k, facts("f3(1)."), facts("f3(1). x. b(1)."), api.ErrPreds)
	refused(t, k, nil, facts("f3(3). x. y."), api.ErrPreds)
	refused(t, k, nil, facts("x. b(1, 2)."), api.ErrClash)
	refused(t, k, nil, facts("x. x(1)."), api.ErrClash)
	refused(t, k, facts("f3(1)."), facts("x."), api.ErrPreds)
	refused(t, k, facts("f3(1). f3(2). f4(1)."), facts("x. y."), api.ErrPreds)
	change(t, k, "f3(1). f3(2).", "x(1). x(2).", "x(1). x(2).", "f3(1). f3(2).")
	change(t, k, "x(1). x(2). f4(1). f4(2).", "y. z.", "y. z.", "f4(1). f4(2). x(1). x(2).")
	refused(t, k, nil, facts("x."), api.ErrPreds)
	if came, _, e := k.Change(nil, facts("b(1). n7. h7(1).")); e != api.OK || len(came) != 52 {
		t.Errorf("Change = %v, %d", came, e)
	}
	k = open(t, "p :- q.", "")
	var many strings.Builder
	for n := range api.MaxPreds - 2 {
		fmt.Fprintf(&many, "f%d. ", n)
	}
	refused(t, k, nil, facts(many.String()+"one."), api.ErrPreds)
	if came, _, e := k.Change(nil, facts(many.String())); e != api.OK || len(came) != api.MaxPreds-2 {
		t.Errorf("Change = %v, %d", came, e)
	}
}

// numbered is so many facts of a predicate, from a number on.
func numbered(pred string, from int, count int) (list []api.Fact) {
	for n := range count {
		list = append(list, api.Fact{Pred: pred, Args: []api.Const{number(int64(from + n))}})
	}
	return list
}

// As many facts may be given as two texts can bring, beside rules too.
func TestMostGivenFacts(t *testing.T) {
	const most = api.MaxClauses + api.MaxFacts
	k := open(t, "r(X) :- q(X), not p(X). r(X) :- p(X), X < 3.", "")
	refused(t, k, nil, numbered("p", 0, most+1), api.ErrFull)
	came, went, e := k.Change(nil, numbered("p", 0, most))
	if e != api.OK || len(came) != most+3 || len(went) != 0 || len(k.Given()) != most {
		t.Fatalf("Change = %d, %d, %d", len(came), len(went), e)
	}
	refused(t, k, nil, facts("q(1)."), api.ErrFull)
	refused(t, k, nil, facts("p(1)."), api.ErrTwice)
	refused(t, k, nil, facts("q(1, 2)."), api.ErrClash)
	refused(t, k, facts("p(1)."), facts("q(1). p(-1)."), api.ErrFull)
	var preds []api.Fact
	for n := range api.MaxPreds {
		preds = append(preds, api.Fact{Pred: fmt.Sprint("f", n)})
	}
	refused(t, k, nil, preds, api.ErrPreds)
	change(t, k, "p(1).", "q(1).", "q(1).", "p(1).")
	change(t, k, "q(1). p(2).", "q(1). q(2).", "q(2).", "p(2).")
	came, went, e = k.Change(numbered("p", 3, most-3), numbered("p", 5, 2))
	if e != api.OK || len(came) != 0 || len(went) != most-5 {
		t.Errorf("Change = %d, %d, %d", len(came), len(went), e)
	}
}

// Two texts may bring as many facts as may be given.
func TestOpenWithMostGivenFacts(t *testing.T) {
	k := open(t, textOf(numbered("p", 0, api.MaxClauses)), textOf(numbered("q", 0, api.MaxFacts)))
	if n := len(k.Given()); n != api.MaxClauses+api.MaxFacts {
		t.Fatalf("%d given facts", n)
	}
	refused(t, k, nil, facts("p(-1)."), api.ErrFull)
	change(t, k, "p(0).", "r.", "r.", "p(0).")
}

// Facts that no text could hold: each of some two thousand bytes.
func TestLongFacts(t *testing.T) {
	k := open(t, "last(H) :- p(_, _, _, _, _, _, _, H).", "")
	var add []api.Fact
	for n := range 600 {
		f := api.Fact{Pred: "p"}
		for place := range api.MaxArity {
			f.Args = append(f.Args, api.Const{Kind: api.KText, Text: strings.Repeat("x", api.MaxText-7) + fmt.Sprintf("%06d%d", n, place)})
		}
		add = append(add, f)
	}
	came, went, e := k.Change(nil, add)
	if e != api.OK || len(came) != 1200 || len(went) != 0 || came[0].Args[0] != add[0].Args[7] || !same(came[1199], add[599]) {
		t.Errorf("Change = %d, %d, %d", len(came), len(went), e)
	}
}

// As many constants as given facts can have, time and again: those that went are not counted.
func TestManyConstants(t *testing.T) {
	k := open(t, "", "")
	var given []api.Fact
	for turn := range 3 {
		var add []api.Fact
		for n := range api.MaxClauses + api.MaxFacts {
			f := api.Fact{Pred: "p"}
			for place := range api.MaxArity {
				f.Args = append(f.Args, number(int64(turn<<40|n<<8|place)))
			}
			add = append(add, f)
		}
		came, went, e := k.Change(given, add)
		if e != api.OK || len(came) != len(add) || len(went) != len(given) {
			t.Fatalf("Change = %d, %d, %d", len(came), len(went), e)
		}
		given = add
	}
}

// Nothing is kept of what went: a predicate and its arity, a constant, a reason.
func TestWhatWentIsForgotten(t *testing.T) {
	k := open(t, ways, "")
	was := seen(k)
	change(t, k, "edge(a, b). edge(b, c).", "p(x). q.", "p(x). q.", textOf(k.Facts()))
	change(t, k, "p(x). q.", "p. q(1).", "p. q(1).", "p(x). q.")
	change(t, k, "p. q(1).", "edge(b, c). edge(a, b).", model, "p. q(1).")
	if seen(k) != was {
		t.Errorf("%s, want %s", seen(k), was)
	}
}

func TestCopy(t *testing.T) {
	k := open(t, ways, "")
	change(t, k, "", "edge(c, a).", "edge(c, a). path(a, a). path(b, a). path(b, b). path(c, a). path(c, b). path(c, c).", "apart(a, a). apart(b, a). apart(b, b). apart(c, a). apart(c, b). apart(c, c).")
	was := seen(k)
	c := k.Copy()
	if seen(c) != was {
		t.Errorf("Copy is %s, want %s", seen(c), was)
	}
	change(t, c, "edge(b, c).", "p(1).", "apart(a, a). apart(a, c). apart(b, a). apart(b, b). apart(b, c). apart(c, c). p(1).", "edge(b, c). path(a, a). path(a, c). path(b, a). path(b, b). path(b, c). path(c, c).")
	if seen(k) != was {
		t.Errorf("the first is %s, was %s", seen(k), was)
	}
	was = seen(c)
	change(t, k, "edge(a, b). edge(b, c). edge(c, a).", "p(1, 2).", "p(1, 2).", textOf(k.Facts()))
	if seen(c) != was {
		t.Errorf("the copy is %s, was %s", seen(c), was)
	}
	if seen(c.Copy().Copy()) != was {
		t.Errorf("a copy's copy is another")
	}
}

func TestNilKeeper(t *testing.T) {
	var k *update.Keeper
	called := 0
	if e := k.Watch("p", func(bool, api.Fact) { called++ }); e != api.OK {
		t.Errorf("Watch = %d", e)
	}
	if e := k.Watch("P", nil); e != api.OK {
		t.Errorf("Watch = %d", e)
	}
	for _, list := range [][]api.Fact{nil, facts("p."), wrong()} {
		if came, went, e := k.Change(list, list); len(came)+len(went) != 0 || e != api.OK {
			t.Errorf("Change = %v, %v, %d", came, went, e)
		}
	}
	if len(k.Given())+len(k.Facts()) != 0 || k.Has(fact("p")) || k.Has(api.Fact{}) || k.Copy() != nil || called != 0 {
		t.Error("a nil keeper tells something")
	}
}
