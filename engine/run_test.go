package engine_test

import (
	"fmt"
	"math"
	"slices"
	"strings"
	"testing"

	"edict/api"
	"edict/engine"
	"edict/parse"
)

// The examples of the chapter and of DOC.md

func TestExample2(t *testing.T) {
	e := load(t, paths, "")
	wantFacts(t, e, "edge(a, b)", "edge(b, c)")
	first := []string{"0 a b", "0 b c", "2 a b", "2 b c", "3 a b", "3 b c"}
	wantActs(t, "Conflict", e.Conflict(), first...)
	wantActs(t, "Eligible", e.Eligible(), first...)
	wantLog(t, e)
}

func wantPathsAtRest(t *testing.T, e *engine.Engine) {
	t.Helper()
	wantModel(t, e, pathsModel)
	wantActs(t, "Eligible", e.Eligible())
	wantActs(t, "Conflict", e.Conflict(), "0 a b", "0 b c", "1 a b c", "2 a b", "2 b c", "3 a b", "3 b c", "4 a a", "4 b a", "4 b b", "4 c a", "4 c b", "4 c c")
}

func TestExample3(t *testing.T) {
	e := load(t, paths, "")
	wantRun(t, e, nil, 100, 100, done(13, 12, 24))
	wantLog(t, e, "0 a b: path(a, b) +", "0 b c: path(b, c) +", "1 a b c: path(a, c) +", "2 a b: node(a) +", "2 b c: node(b) +", "3 a b: node(b)", "3 b c: node(c) +",
		"4 a a: apart(a, a) +", "4 b a: apart(b, a) +", "4 b b: apart(b, b) +", "4 c a: apart(c, a) +", "4 c b: apart(c, b) +", "4 c c: apart(c, c) +")
	wantFacts(t, e, "edge(a, b)", "edge(b, c)", "path(a, b)", "path(b, c)", "path(a, c)", "node(a)", "node(b)", "node(c)", "apart(a, a)", "apart(b, a)", "apart(b, b)", "apart(c, a)", "apart(c, b)", "apart(c, c)")
	wantPathsAtRest(t, e)
	wantRun(t, e, []int{3}, 5, 100, done(0, 0, 24))
}

// Whatever the picks, the same fourteen facts.
func TestWhateverThePicks(t *testing.T) {
	for seed := -60; seed < 60; seed++ {
		var picks []int
		for step := range 13 {
			picks = append(picks, seed*(step+seed)*17)
		}
		e := load(t, paths, "")
		wantRun(t, e, picks, 63, 66, done(13, 12, 24))
		wantPathsAtRest(t, e)
	}
}

func TestStopAndGoOn(t *testing.T) {
	e := load(t, paths, "")
	wantRun(t, e, nil, 4, most, stepped(4, 4, 9))
	wantFacts(t, e, "edge(a, b)", "edge(b, c)", "path(a, b)", "path(b, c)", "path(a, c)", "node(a)")
	wantRun(t, e, nil, most, most, done(9, 8, 24))
	wantPathsAtRest(t, e)
}

func TestExample5(t *testing.T) {
	e := load(t, paths, "")
	wantRun(t, e, nil, 100, 8, crowded(3, 3, 6))
	was := state(e)
	wantRun(t, e, nil, 100, 8, crowded(0, 0, 6))
	wantRun(t, e, nil, 0, 8, stepped(0, 0, 6))
	wantRun(t, e, nil, 0, 5, crowded(0, 0, 6))
	wantRun(t, e, nil, 0, 3, crowded(0, 0, 4))
	wantSame(t, "behind runs without a step", state(e), was)
	wantLog(t, e, "0 a b: path(a, b) +", "0 b c: path(b, c) +", "1 a b c: path(a, c) +")
	wantFacts(t, e, "edge(a, b)", "edge(b, c)", "path(a, b)", "path(b, c)", "path(a, c)")
	wantRun(t, e, nil, 100, 66, done(10, 9, 24))
	wantRun(t, e, nil, 0, 24, done(0, 0, 24))
	wantRun(t, e, nil, 0, 23, crowded(0, 0, 24))
	wantRun(t, e, nil, 0, 0, crowded(0, 0, 1))
	wantRun(t, e, nil, 9, 22, crowded(0, 0, 23))
	wantPathsAtRest(t, e)
}

func TestExample6(t *testing.T) {
	e := load(t, paths, "")
	wantRun(t, e, []int{-1}, 1, 100, stepped(1, 1, 5))
	wantLog(t, e, "3 b c: node(c) +")
	e = load(t, paths, "")
	wantRun(t, e, []int{7}, 1, 100, stepped(1, 1, 3))
	wantLog(t, e, "0 b c: path(b, c) +")
	// A new run begins with picks[0] again, and the list goes on with 0.
	wantRun(t, e, []int{-1, 0, 2}, 2, 100, stepped(2, 2, 8))
	wantRun(t, e, []int{-1}, 2, 100, stepped(2, 2, 15))
	wantLog(t, e, "0 b c: path(b, c) +", "3 b c: node(c) +", "0 a b: path(a, b) +", "3 a b: node(b) +", "1 a b c: path(a, c) +")
}

func TestExample7(t *testing.T) {
	src := "p :- not q. q :- r."
	e := load(t, src, "")
	wantActs(t, "Conflict", e.Conflict(), "0")
	wantRun(t, e, nil, 9, 9, done(1, 1, 1))
	wantModel(t, e, "p.\n")
	e = load(t, src, "r.")
	wantActs(t, "Conflict", e.Conflict(), "0", "1")
	wantActs(t, "Eligible", e.Eligible(), "1")
	wantRun(t, e, nil, 9, 9, done(1, 1, 1))
	wantActs(t, "Conflict", e.Conflict(), "1")
	wantModel(t, e, "q.\nr.\n")
	wantLog(t, e, "1: q +")
}

func TestExample8(t *testing.T) {
	e := load(t, "q(X) :- p(X), not n(X).", "p(a). p(b). n(a). p(a).")
	wantFacts(t, e, "p(a)", "p(b)", "n(a)")
	wantRun(t, e, nil, 1, 2, crowded(0, 0, 3))
	wantRun(t, e, nil, 1, 1, crowded(0, 0, 2))
	wantRun(t, e, nil, 9, 3, done(1, 1, 3))
	wantModel(t, e, "n(a).\np(a).\np(b).\nq(b).\n")
}

func TestExample9(t *testing.T) {
	e := load(t, "", "")
	wantRun(t, e, nil, 0, 0, done(0, 0, 0))
	wantRun(t, e, []int{1}, most, most, done(0, 0, 0))
	wantModel(t, e, "")
	wantFacts(t, e)
	wantActs(t, "Conflict", e.Conflict())
	wantActs(t, "Eligible", e.Eligible())
}

// DOC.md's example 8.
func TestEvenNumbers(t *testing.T) {
	e := load(t, "even(0). even(Y) :- even(X), next(X, Y), X < Y.", "next(0, 2). next(2, 4). next(4, 0).")
	wantRun(t, e, nil, 9, most, done(2, 2, 8))
	wantModel(t, e, "even(0).\neven(2).\neven(4).\nnext(0, 2).\nnext(2, 4).\nnext(4, 0).\n")
}

// The turns: what is asked first

// At rest with too many live tokens a run is not done; and one that has no steps left is done, if nothing is eligible.
func TestOrderOfStops(t *testing.T) {
	src, facts := "q(X) :- p(X).", "p(1). p(2)."
	e := load(t, src, facts)
	wantRun(t, e, nil, 0, 1, crowded(0, 0, 2))
	wantRun(t, e, nil, 0, 2, stepped(0, 0, 2))
	wantRun(t, e, nil, 2, 2, done(2, 2, 2))
	wantRun(t, e, nil, 0, 2, done(0, 0, 2))
	wantRun(t, e, nil, 0, 1, crowded(0, 0, 2))
	wantRun(t, e, nil, 0, 0, crowded(0, 0, 1))
	// The steps run out ahead of the look at an act that has no room.
	e = load(t, "q(X) :- p(X). r(X) :- q(X).", facts)
	wantRun(t, e, nil, 1, 2, crowded(0, 0, 2))
	wantRun(t, e, nil, 1, 3, stepped(1, 1, 3))
	wantRun(t, e, nil, 0, 3, stepped(0, 0, 3))
	wantRun(t, e, nil, 1, 3, crowded(0, 0, 3))
}

// An act whose head is there needs no room: it fires with just as many live tokens as there are.
func TestOldHeadsNeedNoRoom(t *testing.T) {
	e := load(t, "p(X) :- q(X, _). r(X) :- p(X).", "q(1, 2). q(1, 3). p(1).")
	wantRun(t, e, nil, 2, 3, stepped(2, 0, 3))
	wantLog(t, e, "0 1 2: p(1)", "0 1 3: p(1)")
	wantRun(t, e, nil, 5, 3, done(1, 1, 3))
	wantFacts(t, e, "q(1, 2)", "q(1, 3)", "p(1)", "r(1)")
}

// A step that brings the live tokens down is as good as any: what is in between does not count.
func TestHeadsThatBlock(t *testing.T) {
	e := load(t, "k(1) :- b. m :- a(X), not k(X).", "a(1). b.")
	wantRun(t, e, nil, 0, 2, crowded(0, 0, 3))
	wantRun(t, e, nil, 5, 3, done(1, 1, 2))
	wantRun(t, e, nil, 5, 2, done(0, 0, 2))
	// The head brings a token for k(X) and takes away two.
	e = load(t, "k(1) :- b. l(X) :- k(X). m :- a(X), not k(X). m :- a(X), not k(X), not c(X).", "a(1). b.")
	wantRun(t, e, nil, 0, 4, stepped(0, 0, 4))
	wantRun(t, e, nil, 1, 4, stepped(1, 1, 3))
}

// An act that the memory budget keeps from firing may fire later; another pick may find room.
func TestRefusedActs(t *testing.T) {
	e := load(t, "big(X) :- q(X). small(X) :- q(X). a(X) :- big(X). b(X) :- big(X), q(X).", "q(1).")
	was := state(e)
	wantRun(t, e, nil, 9, 1, crowded(0, 0, 1))
	wantSame(t, "behind a refused act", state(e), was)
	wantActs(t, "Eligible", e.Eligible(), "0 1", "1 1")
	wantRun(t, e, []int{1}, 9, 1, crowded(1, 1, 1))
	wantLog(t, e, "1 1: small(1) +")
	wantRun(t, e, []int{-1}, 9, 2, crowded(0, 0, 1))
	wantRun(t, e, nil, 9, 3, done(3, 3, 3))
	wantLog(t, e, "1 1: small(1) +", "0 1: big(1) +", "2 1: a(1) +", "3 1: b(1) +")
	if e.Has(fact("big")) || !e.Has(fact("big", number(1))) {
		t.Error("Has")
	}
}

// The number of a pick is that of the step within this run; a refused act uses none up.
func TestPicksByStep(t *testing.T) {
	src, facts := "q(X) :- p(X).", "p(1). p(2). p(3). p(4). p(5)."
	e := load(t, src, facts)
	wantRun(t, e, []int{4, 3, 2, 1, 0}, 2, most, stepped(2, 2, 5))
	wantRun(t, e, []int{1, 1}, most, most, done(3, 3, 5))
	wantLog(t, e, "0 5: q(5) +", "0 4: q(4) +", "0 2: q(2) +", "0 3: q(3) +", "0 1: q(1) +")
	for pick, want := range map[int]string{math.MaxInt: "0 3: q(3) +", math.MinInt: "0 3: q(3) +", -5: "0 1: q(1) +", -6: "0 5: q(5) +", 5: "0 1: q(1) +", 6: "0 2: q(2) +"} {
		e := load(t, src, facts)
		wantRun(t, e, []int{pick}, 1, most, stepped(1, 1, 5))
		wantLog(t, e, want)
	}
}

// Sorted by constants, not by ids: integers, names, texts.
func TestOrderOfActs(t *testing.T) {
	e := load(t, "p(X, Y) :- q(X), q(Y).", `q("b"). q(b). q(a). q(10). q(9). q("a"). q(-3).`)
	order := []string{"-3", "9", "10", "a", "b", `"a"`, `"b"`}
	var want []string
	for _, x := range order {
		for _, y := range order {
			want = append(want, "0 "+x+" "+y)
		}
	}
	wantActs(t, "Conflict", e.Conflict(), want...)
	wantActs(t, "Eligible", e.Eligible(), want...)
	e.Run([]int{-1, 8}, 2, most)
	wantActs(t, "Conflict", e.Conflict(), want...)
	wantActs(t, "Eligible", e.Eligible(), slices.Delete(slices.Clone(want), 8, 9)[:47]...)
}

// Strata in turn: what is of a higher one waits, though it is satisfied.
func TestStrataInTurn(t *testing.T) {
	e := load(t, "c(X) :- a(X), not b(X). b(X) :- a(X), s(X). d(X) :- a(X), not c(X). s(2).", "a(1). a(2).")
	wantActs(t, "Conflict", e.Conflict(), "0 1", "0 2", "1 2", "2 1", "2 2")
	wantActs(t, "Eligible", e.Eligible(), "1 2")
	wantRun(t, e, []int{5}, 1, most, stepped(1, 1, 6))
	wantActs(t, "Conflict", e.Conflict(), "0 1", "1 2", "2 1", "2 2")
	wantActs(t, "Eligible", e.Eligible(), "0 1")
	wantRun(t, e, []int{5}, 1, most, stepped(1, 1, 5))
	wantActs(t, "Conflict", e.Conflict(), "0 1", "1 2", "2 2")
	wantActs(t, "Eligible", e.Eligible(), "2 2")
	wantRun(t, e, []int{5}, 1, most, done(1, 1, 5))
	wantActs(t, "Eligible", e.Eligible())
	wantRun(t, e, nil, 0, 5, done(0, 0, 5))
	wantFacts(t, e, "s(2)", "a(1)", "a(2)", "b(2)", "c(1)", "d(2)")
}

// Rules without positive atoms, without variables, with constants in the head; a rule that stands twice fires twice.
func TestPlainRules(t *testing.T) {
	e := load(t, "p :- 1 < 2. q :- 2 < 1. p :- 1 < 2. r(x, 7) :- not q. s(Y, Y, \"t\") :- r(_, Y), r(x, Y).", "")
	wantRun(t, e, nil, 3, 4, stepped(3, 2, 4))
	wantRun(t, e, nil, 9, 4, done(1, 1, 4))
	wantLog(t, e, "0: p +", "2: p", "3: r(x, 7) +", `4 x 7: s(7, 7, "t") +`)
	wantModel(t, e, "p.\nr(x, 7).\ns(7, 7, \"t\").\n")
}

// What an engine tells

func TestHas(t *testing.T) {
	e := load(t, "q(X) :- p(X), not n(X).", `p(a). p("a"). p(1). n(1). z.`)
	yes := []api.Fact{fact("p", name("a")), fact("p", api.Const{Kind: api.KText, Text: "a"}), fact("p", number(1)), fact("n", number(1)), fact("z")}
	no := []api.Fact{
		{}, fact("q", number(1)), fact("p"), fact("p", name("a"), name("a")), fact("z", name("a")), fact("p", name("z")), fact("p", name("p")), fact("n", name("a")),
		fact("y"), fact("", name("a")), fact("P", name("a")), fact("p", api.Const{}), fact("p", api.Const{Kind: api.KVar, Text: "a"}), fact("p", api.Const{Kind: api.KInt, Int: 1, Text: "a"}),
		fact("p", api.Const{Kind: api.KName, Int: 1, Text: "a"}), fact("p", api.Const{Kind: 9, Text: "a"}), fact("p", slices.Repeat([]api.Const{name("a")}, 1000)...), fact("n", name("1")),
	}
	derived := []api.Fact{fact("q", name("a")), fact("q", api.Const{Kind: api.KText, Text: "a"})}
	hold := func(facts []api.Fact, want bool) {
		t.Helper()
		for _, f := range facts {
			if got := e.Has(f); got != want {
				t.Errorf("Has(%v) = %v", f, got)
			}
		}
	}
	hold(yes, true)
	hold(no, false)
	hold(derived, false)
	e.Run(nil, most, most)
	hold(yes, true)
	hold(no, false)
	hold(derived, true)
	e.Reset()
	hold(derived, false)
	hold(yes, true)
}

// The lines are sorted by their bytes, not by the order of constants or of coming.
func TestModelByBytes(t *testing.T) {
	e := load(t, "", `pz(9). pa. p_. t(a). p. pz(10). p1(b). pz(-1). t("a.\n\"\xff"). p1(a).`)
	wantModel(t, e, "p.\np1(a).\np1(b).\np_.\npa.\npz(-1).\npz(10).\npz(9).\nt(\"a.\\n\\\"\\xff\").\nt(a).\n")
}

// parse.Facts of a model gives the same facts.
func TestModelIsAFactsText(t *testing.T) {
	e := load(t, `likes(X, Y) :- tea(Y), who(X), not no(X, Y).`, `tea("green\ttea"). tea("\x00\xfe"). who(ann). who(-7). no(ann, "green\ttea").`)
	wantRun(t, e, nil, most, most, done(3, 3, 9))
	facts, fault := parse.Facts(e.Model())
	if fault.Code != api.OK || len(facts) != len(e.Facts()) {
		t.Fatalf("parse.Facts(%q) = %v, %v", e.Model(), facts, fault)
	}
	again := load(t, "", e.Model())
	for _, f := range e.Facts() {
		if !again.Has(f) {
			t.Errorf("%v is not in %q", f, e.Model())
		}
	}
	wantModel(t, again, e.Model())
}

// The program's facts come ahead of those of the facts' text, each where it comes first.
func TestReadingOrder(t *testing.T) {
	e := load(t, "b(2). p(X) :- b(X). a(1). b(2). p(7).", "c. a(1). b(3). p(2). b(2).")
	wantFacts(t, e, "b(2)", "a(1)", "p(7)", "c", "b(3)", "p(2)")
	wantRun(t, e, nil, most, most, done(2, 1, 2))
	wantFacts(t, e, "b(2)", "a(1)", "p(7)", "c", "b(3)", "p(2)", "p(3)")
	wantLog(t, e, "0 2: p(2)", "0 3: p(3) +")
}

// Reset and Fork (E6)

func TestReset(t *testing.T) {
	e := load(t, paths, "")
	was := seen(e)
	e.Reset()
	wantSame(t, "Reset behind Load", seen(e), was)
	e.Run([]int{3, 1, 4}, 5, most)
	half := seen(e)
	e.Reset()
	wantSame(t, "Reset behind five steps", seen(e), was)
	wantRun(t, e, nil, 0, 1, crowded(0, 0, 2))
	wantRun(t, e, nil, 0, 2, stepped(0, 0, 2))
	e.Run([]int{3, 1, 4}, 5, most)
	wantSame(t, "the same steps again", seen(e), half)
	e.Run(nil, most, most)
	e.Reset()
	e.Reset()
	wantSame(t, "Reset behind rest", seen(e), was)
	wantRun(t, e, nil, 63, 66, done(13, 12, 24))
	wantPathsAtRest(t, e)
}

func TestFork(t *testing.T) {
	e := load(t, paths, "")
	early := e.Fork()
	was := seen(e)
	wantSame(t, "a fork of a new one", seen(early), was)
	e.Run([]int{5, 1}, 6, most)
	half := seen(e)
	wantSame(t, "the early fork", seen(early), was)
	late, third := e.Fork(), e.Fork()
	wantSame(t, "a late fork", seen(late), half)
	// The three go on by themselves, each behind six steps.
	e.Run([]int{-1, -1, -1}, 3, most)
	wantSame(t, "the late fork behind the other's steps", seen(late), half)
	one := seen(e)
	late.Run([]int{0, 0, 0}, 3, most)
	wantSame(t, "the first one behind the fork's steps", seen(e), one)
	third.Reset()
	wantSame(t, "the third one behind its Reset", seen(third), was)
	wantSame(t, "the first one behind the third one's Reset", seen(e), one)
	for _, x := range []*engine.Engine{e, late, third, early} {
		before := len(x.Log())
		out := x.Run(nil, most, most)
		if out.Stop != api.Done || before+int(out.Steps) != 13 || len(x.Log()) != 13 {
			t.Errorf("behind %d steps: %v", before, out)
		}
		wantPathsAtRest(t, x)
	}
	if slices.Equal(logTexts(e.Log()), logTexts(late.Log())) || !slices.Equal(logTexts(e.Log())[:6], logTexts(late.Log())[:6]) {
		t.Error("the logs should agree in the first six steps alone")
	}
}

// A fork made between two runs goes on as the first one does: what has fired does not fire again, in any stratum.
func TestForkGoesOn(t *testing.T) {
	for steps := range uint64(14) {
		e := load(t, paths, "")
		e.Run([]int{2, 2, 2, 2}, steps, most)
		f := e.Fork().Fork()
		for _, mem := range []uint64{0, 7, 9, 15, most} {
			picks := []int{1, 1, 1, 1, 1}
			if one, other := e.Run(picks, 4, mem), f.Run(picks, 4, mem); one != other {
				t.Errorf("behind %d steps with the budget %d: %v and its fork %v", steps, mem, one, other)
			}
			wantSame(t, "a fork that goes on", state(f), state(e))
		}
	}
}

// However long the log is when a fork is made, neither writes into the other's.
func TestForkAtEachStep(t *testing.T) {
	behind := func(steps int, last int) *engine.Engine {
		e := load(t, paths, "")
		e.Run(nil, uint64(steps), most)
		e.Run([]int{last}, 1, most)
		return e
	}
	for steps := range 12 {
		e := load(t, paths, "")
		e.Run(nil, uint64(steps), most)
		forks := []*engine.Engine{e, e.Fork(), e.Fork()}
		for num, x := range forks {
			x.Run([]int{num}, 1, most)
		}
		for num, x := range forks {
			wantSame(t, fmt.Sprint("fork ", num, " behind ", steps, " steps"), state(x), state(behind(steps, num)))
		}
	}
}

// Asking changes nothing: neither ahead of the first run, nor between runs, nor behind a refused one.
func TestAskingChangesNothing(t *testing.T) {
	budgets := []uint64{1, 2, 9, 3, 12, 8, 24, 0, 17, most, 24}
	quiet, asked := load(t, paths, ""), load(t, paths, "")
	for num, mem := range budgets {
		seen(asked)
		asked.Has(fact("path", name("a"), name("c")))
		asked.Fork().Run(nil, most, most)
		picks := []int{num, -num, 3 * num}
		one, other := quiet.Run(picks, 2, mem), asked.Run(picks, 2, mem)
		if one != other {
			t.Errorf("run %d: %v, and of the one that was asked %v", num, one, other)
		}
		wantSame(t, "the one that was asked", seen(asked), seen(asked.Fork()))
	}
	wantSame(t, "the one that was asked", seen(asked), seen(quiet))
}

// Great programs

// great is the chapter's: twenty facts, and a rule with sixteen variables.
func great(t *testing.T, body string) *engine.Engine {
	t.Helper()
	var facts strings.Builder
	for num := range 20 {
		fmt.Fprintf(&facts, "q(c%d). r(x, c%d).", num, num)
	}
	return load(t, "s :- q(c3), not n. p :- "+body+".", facts.String())
}

func body(form string, atoms int) string {
	var all []string
	for num := range atoms {
		all = append(all, fmt.Sprintf(form, num))
	}
	return strings.Join(all, ", ")
}

// All calls but Conflict and Eligible answer at once, where there are more tokens than can be counted: also where the atoms share a variable.
func TestGreat(t *testing.T) {
	for _, body := range []string{body("q(X%d)", 16), body("r(X, Y%d)", 15), body("q(X%d)", 8) + ", " + body("r(Y, Z%d)", 7)} {
		e := great(t, body)
		if info := e.Info(); info.Bound != most || info.Tokens != most || info.Facts != 40 || info.Consts != 21 {
			t.Errorf("Info = %v", info)
		}
		for _, mem := range []uint64{0, 1, 19, 20, 100, 421, 5000} {
			wantRun(t, e, nil, 5, mem, crowded(0, 0, mem+1))
			wantRun(t, e.Fork(), []int{-1}, 0, mem, crowded(0, 0, mem+1))
			e.Reset()
		}
		if len(e.Rows()) != 40 || len(e.Facts()) != 40 || strings.Count(e.Model(), "\n") != 40 || len(e.Log()) != 0 || !e.Has(fact("q", name("c7"))) {
			t.Error("the memory")
		}
	}
}

// Likewise where it is a step that would bring them: twenty facts that come one by one.
func TestGreatStep(t *testing.T) {
	var facts strings.Builder
	for num := range 20 {
		fmt.Fprintf(&facts, "q(c%d).", num)
	}
	e := load(t, "r(X) :- q(X). p :- "+body("r(X%d)", 16)+".", facts.String())
	// One fact: a token at each of the sixteen nodes. Two: 2, 4, 8, .. at these.
	wantRun(t, e, nil, 9, 36, crowded(1, 1, 36))
	wantRun(t, e, nil, 9, 35, crowded(0, 0, 36))
	wantRun(t, e, nil, 9, 20+131069, crowded(0, 0, 36))
	wantRun(t, e, nil, 9, 20+131070, crowded(1, 1, 20+131070))
	wantLog(t, e, "0 c0: r(c0) +", "0 c1: r(c1) +")
}

// The memory has no limit of its own.
func TestManyFacts(t *testing.T) {
	var facts strings.Builder
	for num := range 90 {
		fmt.Fprintf(&facts, "q(%d).", num)
	}
	e := load(t, "p(X, Y) :- q(X), q(Y).", facts.String())
	wantRun(t, e, []int{-1, 5, 4000}, most, most, done(8100, 8100, 8190))
	if len(e.Facts()) != 8190 || len(e.Log()) != 8100 || len(e.Conflict()) != 8100 || len(e.Eligible()) != 0 {
		t.Errorf("%d facts, %d steps", len(e.Facts()), len(e.Log()))
	}
}
