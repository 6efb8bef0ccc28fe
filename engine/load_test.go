package engine_test

import (
	"fmt"
	"reflect"
	"strings"
	"testing"

	"edict/api"
	"edict/core"
	"edict/engine"
	"edict/parse"
	"edict/plan"
)

// E1, and DOC.md's "Load's faults, in their order"

func TestInfo(t *testing.T) {
	wantInfo(t, paths, "", api.Info{Bound: 63, Tokens: 66, Consts: 3, Preds: 4, Rules: 5, Facts: 2, Strata: 2, Nodes: 7})
	wantInfo(t, "p :- not q. q :- r.", "", api.Info{Bound: 2, Tokens: 2, Preds: 3, Rules: 2, Strata: 2, Nodes: 3})
	wantInfo(t, "q(X) :- p(X), not n(X).", "p(a). p(b). n(a). p(a).", api.Info{Bound: 2, Tokens: 4, Consts: 2, Preds: 3, Rules: 1, Facts: 3, Strata: 2, Nodes: 3})
	wantInfo(t, "even(0). even(Y) :- even(X), next(X, Y), X < Y.", "next(0, 2). next(2, 4). next(4, 0).", api.Info{Bound: 9, Tokens: 21, Consts: 3, Preds: 2, Rules: 1, Facts: 4, Strata: 1, Nodes: 4})
	wantInfo(t, "", "", api.Info{Nodes: 1})
	wantInfo(t, " % nothing\n", "/* nothing */", api.Info{Nodes: 1})
	wantInfo(t, "p.", "", api.Info{Preds: 1, Facts: 1, Strata: 1, Nodes: 1})
	wantInfo(t, "", "p.", api.Info{Preds: 1, Facts: 1, Strata: 1, Nodes: 1})
	// A fact of both texts is one; a predicate and a constant of the facts' text count; so do those of heads, tests and negated atoms.
	wantInfo(t, "p(1). h(2) :- p(3), 4 < 5, not n(6).", "p(1). f(7).", api.Info{Bound: 1, Tokens: 3, Consts: 7, Preds: 4, Rules: 1, Facts: 2, Strata: 2, Nodes: 4})
	// The name a, the text "a" and the integer 1, the text "1".
	wantInfo(t, "", `p(a). p("a"). p(1). p("1"). p(01). p(-1).`, api.Info{Consts: 5, Preds: 1, Facts: 5, Strata: 1, Nodes: 1})
	// The same rule twice: two rules, one way through the plan.
	wantInfo(t, "p(X) :- q(X). p(Y) :- q(Y).", "q(1). q(2).", api.Info{Bound: 4, Tokens: 2, Consts: 2, Preds: 2, Rules: 2, Facts: 2, Strata: 1, Nodes: 2})
	// Levels as high as the negations ask, whatever stands beside them.
	wantInfo(t, "d :- not c. c :- not b. b :- not a. a :- z, a. e :- d.", "", api.Info{Bound: 5, Tokens: 6, Preds: 6, Rules: 5, Strata: 4, Nodes: 7})
}

func TestInfoStopsAtTheGreatest(t *testing.T) {
	src, facts := "p(A) :- q(A, B, C, D, E, F, G, H), q(I, J, K, L, M, N, O, P).", "q(0, 1, 2, 3, 4, 5, 6, 7). q(8, 9, a, b, c, d, e, f)."
	wantInfo(t, src, facts, api.Info{Bound: most, Tokens: most, Consts: 16, Preds: 2, Rules: 1, Facts: 2, Strata: 1, Nodes: 3})
	// With one constant less: 15 to the 16, and 15 to the 8.
	wantInfo(t, src, strings.Replace(facts, "f)", "e)", 1), api.Info{Bound: 6568408355712890625, Tokens: 6568408358275781250, Consts: 15, Preds: 2, Rules: 1, Facts: 2, Strata: 1, Nodes: 3})
}

func TestFaultsOfTheExamples(t *testing.T) {
	long := strings.Repeat(" ", api.MaxSource+1)
	wantFault(t, "p(X).", "", api.ErrRange, 0, 2)
	wantFault(t, "p :- q, not p.", "", api.ErrStrata, 0, 8)
	wantFault(t, "p(a).", "p.", api.ErrClash, 1, 0)
	wantFault(t, "p(X) :- not q(X). p :- .", "", api.ErrSyntax, 0, 23)
	wantFault(t, long, long, api.ErrLong, 0, 0)
	wantFault(t, "p(", long, api.ErrLong, 1, 0)
	wantFault(t, "a. b :- a. d(1). p :- a, not b, not c, not q, 1 < 2. q :- a, b, p.", "", api.ErrStrata, 0, 39)
	// Those of DOC.md.
	wantFault(t, "win(X) :- move(X, Y), not win(Y).", "move(a, b).", api.ErrStrata, 0, 22)
	wantFault(t, "p(X) :- q(Y).", "", api.ErrRange, 0, 2)
	wantFault(t, "p :- q, r(", "", api.ErrEnd, 0, 10)
	wantFault(t, "p.", "p(1).", api.ErrClash, 1, 0)
}

// kinds is a pair of texts for each sort of fault, in the order in which Load looks for them.
func kinds() [][]string {
	return [][]string{
		{strings.Repeat(" ", api.MaxSource) + ".", "", "long program"},
		{"", strings.Repeat("%", api.MaxSource+1), "long facts"},
		{"?", "", "form of the program"},
		{"", "?", "form of the facts"},
		{"p. p(1).", "", "clash"},
		{"q(X).", "", "range"},
		{"r :- not r.", "", "strata"},
	}
}

// Where two sorts apply, the first is answered.
func TestFirstFaultFirst(t *testing.T) {
	wants := []api.Fault{
		{Code: api.ErrLong}, {Code: api.ErrLong, Text: 1}, {Code: api.ErrByte}, {Code: api.ErrByte, Text: 1},
		{Code: api.ErrClash, Off: 3}, {Code: api.ErrRange, Off: 2}, {Code: api.ErrStrata, Off: 5},
	}
	for first, one := range kinds() {
		wantFault(t, one[0], one[1], wants[first].Code, wants[first].Text, wants[first].Off)
		for _, other := range kinds()[first+1:] {
			// The later one stands ahead in the texts: the order of the sorts decides, not that of the places.
			src, facts := other[0]+one[0], other[1]+one[1]
			_, info, got := engine.Load(src, facts)
			want := wants[first]
			if want.Code != api.ErrLong {
				if want.Text == 0 {
					want.Off += len(other[0])
				} else {
					want.Off += len(other[1])
				}
			}
			if got != want || info != (api.Info{}) {
				t.Errorf("%s and %s: %v, want %v", one[2], other[2], got, want)
			}
		}
	}
}

func TestLengths(t *testing.T) {
	blanks := strings.Repeat(" ", api.MaxSource)
	wantInfo(t, blanks, blanks, api.Info{Nodes: 1})
	wantInfo(t, blanks[2:]+"p.", blanks[2:]+"q.", api.Info{Preds: 2, Facts: 2, Strata: 1, Nodes: 1})
	wantFault(t, blanks[1:]+"p.", "", api.ErrLong, 0, 0)
	wantFault(t, "", blanks[1:]+"q.", api.ErrLong, 1, 0)
	wantFault(t, "?", blanks+" ", api.ErrLong, 1, 0)
	wantFault(t, blanks+" ", "?", api.ErrLong, 0, 0)
}

func TestFormOfTheFacts(t *testing.T) {
	for _, f := range []struct {
		facts string
		code  api.Errno
		off   int
	}{
		{"p(X).", api.ErrSyntax, 2}, {"p(1)", api.ErrEnd, 4}, {"p :- q.", api.ErrSyntax, 2}, {"p. not q.", api.ErrSyntax, 3},
		{"p(\"a).", api.ErrQuote, 2}, {"p. /*", api.ErrComment, 3}, {"p(1, 2, 3, 4, 5, 6, 7, 8, 9).", api.ErrArity, 26},
		{"p(99999999999999999999).", api.ErrInt, 2}, {"p. " + strings.Repeat("q", 65) + ".", api.ErrName, 3},
		{strings.Repeat("p.", api.MaxFacts) + "p.", api.ErrClauses, 2 * api.MaxFacts},
	} {
		wantFault(t, "", f.facts, f.code, 1, f.off)
		wantFault(t, "r :- not r. p(X). p.", f.facts, f.code, 1, f.off)
		wantFault(t, "p(", f.facts, api.ErrEnd, 0, 2)
	}
	wantInfo(t, "", strings.Repeat("p.", api.MaxFacts), api.Info{Preds: 1, Facts: 1, Strata: 1, Nodes: 1})
	wantFault(t, strings.Repeat("p.", api.MaxClauses)+" p.", "", api.ErrClauses, 0, 2*api.MaxClauses+1)
	wantInfo(t, strings.Repeat("p.", api.MaxClauses), strings.Repeat("q.", api.MaxFacts), api.Info{Preds: 2, Facts: 2, Strata: 1, Nodes: 1})
}

// manyPreds is so many facts, each with a predicate of its own.
func manyPreds(count int) string {
	var text strings.Builder
	for num := range count {
		fmt.Fprintf(&text, "p%d.", num)
	}
	return text.String()
}

func TestPredicates(t *testing.T) {
	full := manyPreds(api.MaxPreds)
	wantInfo(t, full, "", api.Info{Preds: 128, Facts: 128, Strata: 1, Nodes: 1})
	wantInfo(t, "", full, api.Info{Preds: 128, Facts: 128, Strata: 1, Nodes: 1})
	wantFault(t, full+" one.", "", api.ErrPreds, 0, len(full)+1)
	wantFault(t, full+" p0 :- p1, not one.", "", api.ErrPreds, 0, len(full)+15)
	wantFault(t, full, " one.", api.ErrPreds, 1, 1)
	wantFault(t, "one.", full, api.ErrPreds, 1, len(full)-len("p127."))
	// Whichever of the two comes first.
	wantFault(t, full+" p0(1). one.", "", api.ErrClash, 0, len(full)+1)
	wantFault(t, full+" one. p0(1).", "", api.ErrPreds, 0, len(full)+1)
	wantFault(t, full, "p0(1). one.", api.ErrClash, 1, 0)
	wantFault(t, "p(1) :- q. q :- p(2), not q(X).", "p.", api.ErrClash, 0, 26)
}

func TestVariables(t *testing.T) {
	all := "A, B, C, D, E, F, G, H), q(I, J, K, L, M, N, O, P)"
	load(t, "p :- q("+all+".", "")
	wantFault(t, "p :- q("+all+", r(Z).", "", api.ErrVars, 0, 7+len(all)+4)
	// The first clause with one of the two; there too many go ahead of one that is not bound.
	wantFault(t, "s(X). p :- q("+all+", r(Z).", "", api.ErrRange, 0, 2)
	wantFault(t, "p(Z) :- q("+all+".", "", api.ErrVars, 0, 10+len(all)-2)
	wantFault(t, "p :- q(X), not r(_).", "", api.ErrRange, 0, 17)
	wantFault(t, "p :- q(X), X < Y.", "", api.ErrRange, 0, 15)
	wantFault(t, "p :- not q(X). r :- not r.", "", api.ErrRange, 0, 11)
}

func TestStrata(t *testing.T) {
	wantFault(t, "p :- not p.", "", api.ErrStrata, 0, 5)
	wantFault(t, "p :- not q. q :- not r. r :- p.", "", api.ErrStrata, 0, 5)
	wantFault(t, "q :- r, not s. r :- q. s :- t, not r. t.", "", api.ErrStrata, 0, 8)
	wantFault(t, "a. /* not p */ p :- 1 < 2, q, not a, 1 != 2, not r, q, not p, not p.", "", api.ErrStrata, 0, 55)
	// The first in reading order, though the walk that it begins is the longer one; negations outside of any circle are none.
	wantFault(t, "x :- not y. y :- not z. b :- not a. c :- b. d :- c. a :- d. e :- not e.", "", api.ErrStrata, 0, 29)
	// A circle without a negation inside does no harm, nor does a negation between two circles.
	load(t, "p :- not q. q :- r. r :- q. p :- s. s :- p.", "q. r. s. p.")
	load(t, "a :- not b, not c. b :- not c. c :- d, not e.", "")
}

// core.Build's core and plan.Compile's plan, whatever has happened.
func TestCoreAndPlan(t *testing.T) {
	src, facts := "p(X, a) :- q(X, _), not r(b, X), X != 3. e. q(1, 1). p(X, X) :- q(X, X).", "q(c, 3). q(1, 1)."
	program, _ := parse.Program(src)
	given, _ := parse.Facts(facts)
	wantCore, fault := core.Build(program, given)
	wantPlan, e := plan.Compile(wantCore.Rules)
	if fault.Code != api.OK || e != api.OK {
		t.Fatal(fault, e)
	}
	one := load(t, src, facts)
	two := one.Fork()
	two.Run(nil, most, most)
	three := two.Fork()
	three.Reset()
	for _, x := range []*engine.Engine{one, two, three} {
		if got := x.Core(); !reflect.DeepEqual(got, wantCore) {
			t.Errorf("Core = %+v, want %+v", got, wantCore)
		}
		if got := x.Plan(); !reflect.DeepEqual(got, wantPlan) {
			t.Errorf("Plan = %+v, want %+v", got, wantPlan)
		}
		if s, f := x.Texts(); s != src || f != facts {
			t.Errorf("Texts = %q, %q", s, f)
		}
		if got := x.Info(); got != one.Info() {
			t.Errorf("Info = %v", got)
		}
	}
}

func TestTextsByteByByte(t *testing.T) {
	src, facts := "\t p(\"\\x00\xff\") . % \xff\x00 end", " \r\n/* \x80 */q.\n"
	e := load(t, src, facts)
	e.Run(nil, most, most)
	if s, f := e.Texts(); s != src || f != facts {
		t.Errorf("Texts = %q, %q, want %q, %q", s, f, src, facts)
	}
}
