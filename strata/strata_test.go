package strata_test

import (
	"math"
	"reflect"
	"runtime/debug"
	"slices"
	"strconv"
	"strings"
	"testing"

	"edict/api"
	"edict/core"
	"edict/parse"
	"edict/strata"
)

// edges reads edges as the chapter writes them: From>To, or From~To for a negated one, with blanks between. Their rules are numbers that nobody should look at.
func edges(t *testing.T, text string) []api.Edge {
	t.Helper()
	var es []api.Edge
	for i, word := range strings.Fields(text) {
		at := strings.IndexAny(word, ">~")
		from, e1 := strconv.Atoi(word[:at])
		to, e2 := strconv.Atoi(word[at+1:])
		if e1 != nil || e2 != nil {
			t.Fatalf("no edge: %s", word)
		}
		es = append(es, api.Edge{From: from, To: to, Neg: word[at] == '~', Rule: 9 - 7*i})
	}
	return es
}

// numbers reads numbers with blanks between.
func numbers(t *testing.T, text string) []int {
	t.Helper()
	var ns []int
	for _, word := range strings.Fields(text) {
		n, err := strconv.Atoi(word)
		if err != nil {
			t.Fatalf("no number: %s", word)
		}
		ns = append(ns, n)
	}
	return ns
}

// lists reads lists of numbers with strokes between.
func lists(t *testing.T, text string) [][]int {
	t.Helper()
	var all [][]int
	for part := range strings.SplitSeq(text, "/") {
		if ns := numbers(t, part); len(ns) > 0 {
			all = append(all, ns)
		}
	}
	return all
}

func sameLists(a, b [][]int) bool {
	return slices.EqualFunc(a, b, func(x, y []int) bool { return slices.Equal(x, y) })
}

func wantComponents(t *testing.T, n int, es []api.Edge, want [][]int) {
	t.Helper()
	if got, e := strata.Components(n, es); e != api.OK || !sameLists(got, want) {
		t.Errorf("Components(%d, %v) = %v, %d, want %v", n, es, got, e, want)
	}
}

func wantBad(t *testing.T, n int, es []api.Edge, want int) {
	t.Helper()
	if got, e := strata.Bad(n, es); e != api.OK || got != want {
		t.Errorf("Bad(%d, %v) = %d, %d, want %d", n, es, got, e, want)
	}
}

func wantLevels(t *testing.T, n int, es []api.Edge, want []int, wantE api.Errno) {
	t.Helper()
	if got, e := strata.Levels(n, es); e != wantE || !slices.Equal(got, want) {
		t.Errorf("Levels(%d, %v) = %v, %d, want %v, %d", n, es, got, e, want, wantE)
	}
}

func wantCycle(t *testing.T, n int, es []api.Edge, want []int) {
	t.Helper()
	if got, e := strata.Cycle(n, es); e != api.OK || !slices.Equal(got, want) {
		t.Errorf("Cycle(%d, %v) = %v, %d, want %v", n, es, got, e, want)
	}
}

func wantHolds(t *testing.T, n int, es []api.Edge, levels []int, want bool) {
	t.Helper()
	if got := strata.Holds(n, es, levels); got != want {
		t.Errorf("Holds(%d, %v, %v) = %v", n, es, levels, got)
	}
}

func wantCyclic(t *testing.T, n int, es []api.Edge, walk []int, want bool) {
	t.Helper()
	if got := strata.Cyclic(n, es, walk); got != want {
		t.Errorf("Cyclic(%d, %v, %v) = %v", n, es, walk, got)
	}
}

// wantRefused holds all calls that take n and edges against it.
func wantRefused(t *testing.T, n int, es []api.Edge) {
	t.Helper()
	if got, e := strata.Components(n, es); e != api.ErrArg || len(got) > 0 {
		t.Errorf("Components(%d, %v) = %v, %d", n, es, got, e)
	}
	if got, e := strata.Bad(n, es); e != api.ErrArg || got != 0 {
		t.Errorf("Bad(%d, %v) = %d, %d", n, es, got, e)
	}
	if got, e := strata.Levels(n, es); e != api.ErrArg || len(got) > 0 {
		t.Errorf("Levels(%d, %v) = %v, %d", n, es, got, e)
	}
	if got, e := strata.Cycle(n, es); e != api.ErrArg || len(got) > 0 {
		t.Errorf("Cycle(%d, %v) = %v, %d", n, es, got, e)
	}
	for _, levels := range [][]int{nil, {0}, {0, 1}, {0, 1, 2}, make([]int, min(max(n, 0), 200))} {
		wantHolds(t, n, es, levels, false)
	}
	for _, walk := range [][]int{nil, {0}, {1}, {0, 1}, {1, 0}, {-1}, {len(es)}} {
		wantCyclic(t, n, es, walk, false)
	}
}

// graph is one of the chapter's examples, or one like them.
type graph struct {
	n                                  int
	edges, components, levels, closing string // levels "none": there are none, and closing is the cycle
}

var graphs = []graph{
	{0, "", "", "", ""},
	{1, "", "0", "0", ""},
	{3, "", "0 / 1 / 2", "0 0 0", ""},
	{4, "3>0 0>1 1>0 1~2", "3 / 0 1 / 2", "0 0 1 0", ""},
	{3, "2>0", "1 / 2 / 0", "0 0 0", ""},
	{3, "0~1 1~2 0>2", "0 / 1 / 2", "0 1 2", ""},
	{2, "0~0", "0 / 1", "none", "0"},
	{2, "0>0", "0 / 1", "0 0", ""},
	{2, "0>0 1>1 1~1 0~0", "0 / 1", "none", "2"},
	{3, "0>1 1>2 2~0 1>0", "0 1 2", "none", "2 0 1"},
	{4, "0>1 0>2 1>3 2>3 3~0 0>1", "0 1 2 3", "none", "4 0 2"},
	{3, "0~1 1>0", "0 1 / 2", "none", "0 1"},
	{3, "1>0 0~1", "0 1 / 2", "none", "1 0"},
	{3, "0~1 0~1 1>0", "0 1 / 2", "none", "0 2"},
	{4, "0~1 2>3 3~2", "0 / 1 / 2 3", "none", "2 1"},
	// The greater of two that can be told waits till the lesser is, also one that could not be told at first.
	{5, "4>3 3>0", "1 / 2 / 4 / 3 / 0", "0 0 0 0 0", ""},
	{6, "5>0 1>4", "1 / 2 / 3 / 4 / 5 / 0", "0 0 0 0 0 0", ""},
	{6, "5>1 1>5 4>2 2>4 4>1", "0 / 2 4 / 1 5 / 3", "0 0 0 0 0 0", ""},
	// Levels over ways that meet again: the greatest number of negations counts, not of edges.
	{5, "0>1 1>2 2>4 0~3 3>4", "0 / 1 / 2 / 3 / 4", "0 0 0 1 1", ""},
	{5, "4~3 3~2 4>2 2>1 1>2 1~0", "4 / 3 / 1 2 / 0", "3 2 2 1 0", ""},
	{3, "0>1 0~1 1>2 1>2", "0 / 1 / 2", "0 1 1", ""},
	{3, "0~1 0>1", "0 / 1 / 2", "0 1 0", ""},
	// The shortest walk comes ahead of one with lesser numbers; the least of the first that differ counts.
	{4, "0>1 1>2 2>3 3~0 0>3", "0 1 2 3", "none", "3 4"},
	{5, "0>2 0>1 1>3 2>3 3>4 4~0", "0 1 2 3 4", "none", "5 0 3 4"},
	{5, "2>3 1>3 0>1 0>2 3~0", "0 1 2 3 / 4", "none", "4 2 1"},
	// Further negated edges may lie in the walk; the one that began it is not gone again.
	{3, "0~1 1~2 2~0", "0 1 2", "none", "0 1 2"},
	{3, "1~0 0~1 0>1", "0 1 / 2", "none", "0 1"},
	{3, "1>0 0>1 0~1 0~2", "0 1 / 2", "none", "2 0"},
	// A dead end that lies as near to the beginning does not count.
	{5, "0>4 0>1 1>2 2~0 4>3", "0 1 2 / 4 / 3", "none", "3 1 2"},
}

func TestGraphs(t *testing.T) {
	for _, g := range graphs {
		es := edges(t, g.edges)
		wantComponents(t, g.n, es, lists(t, g.components))
		if g.levels != "none" {
			levels := numbers(t, g.levels)
			wantBad(t, g.n, es, -1)
			wantLevels(t, g.n, es, levels, api.OK)
			wantCycle(t, g.n, es, nil)
			wantHolds(t, g.n, es, levels, true)
			continue
		}
		closing := numbers(t, g.closing)
		wantBad(t, g.n, es, closing[0])
		wantLevels(t, g.n, es, nil, api.ErrStrata)
		wantCycle(t, g.n, es, closing)
		wantCyclic(t, g.n, es, closing, true)
	}
}

func TestArguments(t *testing.T) {
	for _, n := range []int{-1, -2, 129, 1 << 20, math.MinInt, math.MaxInt} {
		wantRefused(t, n, nil)
		wantRefused(t, n, edges(t, "0~0 0>0"))
	}
	for n, text := range []string{"0~0", "0~1", "0>2", "0~3"} {
		wantRefused(t, n, edges(t, text))
		wantRefused(t, n, append(edges(t, text), edges(t, "0~0 0>1 1~0")...))
	}
	for _, e := range []api.Edge{
		{From: -1, To: 0}, {From: 0, To: -1}, {From: -1, To: -1}, {From: 3, To: 0}, {From: 0, To: 3},
		{From: 128, To: 128}, {From: math.MinInt}, {To: math.MaxInt}, {From: math.MaxInt, To: math.MinInt, Neg: true},
	} {
		wantRefused(t, 3, []api.Edge{e})
		wantRefused(t, 3, append(edges(t, "0~1 1>0"), e))
	}
	wantRefused(t, 128, edges(t, "127>128"))
	wantRefused(t, 128, edges(t, "128>127"))
	wantRefused(t, 0, edges(t, "0>0"))
	wantLevels(t, 128, edges(t, "127~0"), append([]int{1}, make([]int, 127)...), api.OK)
	wantBad(t, 0, nil, -1)
}

func TestHolds(t *testing.T) {
	es := edges(t, "0~1 1~2 0>2")
	for text, want := range map[string]bool{
		"0 1 2": true, "0 2 3": true, "7 8 9": true, "0 1 1": false, "0 0 1": false, "1 0 2": false, "0 1": false, "0 1 2 0": false,
		"": false, "-1 1 2": false, "-3 -2 -1": false,
		"0 9223372036854775806 9223372036854775807": true, "0 9223372036854775807 9223372036854775807": false,
		"0 9223372036854775807 -9223372036854775808": false, "9223372036854775807 0 1": false,
	} {
		wantHolds(t, 3, es, numbers(t, text), want)
	}
	wantHolds(t, 0, nil, nil, true)
	wantHolds(t, 0, nil, []int{}, true)
	wantHolds(t, 0, nil, []int{0}, false)
	wantHolds(t, 1, nil, []int{-1}, false)
	wantHolds(t, 1, nil, []int{math.MaxInt}, true)
	wantHolds(t, 1, edges(t, "0>0"), []int{math.MaxInt}, true)
	wantHolds(t, 1, edges(t, "0~0"), []int{4}, false)
	wantHolds(t, 2, edges(t, "0>1"), []int{math.MaxInt, math.MaxInt}, true)
	wantHolds(t, 2, edges(t, "0>1"), []int{2, 1}, false)
	wantHolds(t, 2, edges(t, "0>1"), []int{1, 2}, true)
	wantHolds(t, 2, edges(t, "1>0 0~1"), []int{0, 1}, false)
	wantHolds(t, 3, edges(t, "0>1"), []int{0, 0, -1}, false)
}

func TestCyclic(t *testing.T) {
	es := edges(t, "0>1 1>2 2~0 1>0 2>2")
	for text, want := range map[string]bool{
		"2 0 1": true, "0 1 2": true, "1 2 0": true, "2 0 1 2 0 1": true, "0 3 0 1 2": true, "0 1 4 2": true, "0 1 4 4 4 2": true,
		"0 3": false, "4": false, "2 0": false, "": false, "5": false, "-1": false, "2": false, "0 1": false, "2 0 1 2": false,
		"2 1 0": false, "2 0 1 5": false, "2 0 1 -1": false, "-1 2 0 1": false, "5 2 0 1": false, "2 3": false, "0 2 1": false,
		"9223372036854775807": false, "-9223372036854775808": false,
	} {
		wantCyclic(t, 3, es, numbers(t, text), want)
	}
	wantCyclic(t, 1, edges(t, "0~0"), []int{0}, true)
	wantCyclic(t, 1, edges(t, "0>0 0~0"), []int{0, 0, 1}, true)
	wantCyclic(t, 1, edges(t, "0>0 0~0"), []int{0, 0}, false)
	wantCyclic(t, 2, edges(t, "0~1"), []int{0}, false)
	wantCyclic(t, 3, nil, []int{0}, false)
	wantCyclic(t, 0, nil, nil, false)
}

func pat(pred int) api.Pattern { return api.Pattern{Pred: pred} }

func TestEdges(t *testing.T) {
	rules := []api.Rule{
		{Head: pat(3), Tests: []api.Test{{Op: api.OpLt}}, Clause: 5},
		{Head: pat(0), Pos: []api.Pattern{pat(1), pat(0), pat(1)}, Tests: []api.Test{{Op: 99}}, Neg: []api.Pattern{pat(2), pat(1), pat(2)}, Clause: 8},
		{},
		{Head: pat(math.MinInt), Pos: []api.Pattern{pat(-1)}, Neg: []api.Pattern{pat(math.MaxInt)}, Clause: 2},
		{Head: pat(4), Neg: []api.Pattern{pat(4)}},
		{Head: pat(4), Pos: []api.Pattern{pat(4)}},
		{Head: pat(4), Pos: []api.Pattern{pat(4)}},
	}
	want := []api.Edge{
		{From: 1, To: 0, Rule: 1}, {From: 0, To: 0, Rule: 1}, {From: 1, To: 0, Rule: 1},
		{From: 2, To: 0, Neg: true, Rule: 1}, {From: 1, To: 0, Neg: true, Rule: 1}, {From: 2, To: 0, Neg: true, Rule: 1},
		{From: -1, To: math.MinInt, Rule: 3}, {From: math.MaxInt, To: math.MinInt, Neg: true, Rule: 3},
		{From: 4, To: 4, Neg: true, Rule: 4}, {From: 4, To: 4, Rule: 5}, {From: 4, To: 4, Rule: 6},
	}
	if got := strata.Edges(rules); !slices.Equal(got, want) {
		t.Errorf("Edges = %v, want %v", got, want)
	}
	for _, none := range [][]api.Rule{nil, {}, {{}}, {{Head: pat(1), Tests: make([]api.Test, 2)}}} {
		if got := strata.Edges(none); len(got) > 0 {
			t.Errorf("Edges(%v) = %v", none, got)
		}
	}
}

// coreOf is the core of a program's text.
func coreOf(t *testing.T, text string) api.Core {
	t.Helper()
	p, fault := parse.Program(text)
	if fault.Code != api.OK {
		t.Fatalf("%s: %+v", text, fault)
	}
	c, fault := core.Build(p, nil)
	if fault.Code != api.OK {
		t.Fatalf("%s: %+v", text, fault)
	}
	return c
}

// Texts of rules with the levels of their predicates, by first coming; none where there are no levels.
func TestTexts(t *testing.T) {
	for text, want := range map[string]string{
		"p :- q, not r, p. s :- 1 < 2.":                                                       "1 0 0 0",
		"edge(a, b). path(X, Y) :- edge(X, Y). path(X, Z) :- path(X, Y), edge(Y, Z).":         "0 0",
		"win(X) :- move(X, Y), not win(Y).":                                                   "none",
		"p(X) :- q(X), not r(X). r(X) :- s(X), not t(X). t(X) :- q(X).":                       "2 0 1 0 0",
		"node(X) :- edge(X, _). apart(X, Y) :- node(X), node(Y), not path(X, Y). path(a, a).": "0 0 1 0",
		"a :- not b. b :- not c. c :- not d. d :- a.":                                         "none",
		"even(0). even(Y) :- even(X), next(X, Y), X < Y. odd(X) :- next(X, _), not even(X).":  "0 0 1",
	} {
		c := coreOf(t, text)
		es := strata.Edges(c.Rules)
		if want == "none" {
			wantLevels(t, len(c.Preds), es, nil, api.ErrStrata)
			continue
		}
		wantLevels(t, len(c.Preds), es, numbers(t, want), api.OK)
	}
	wantEdges := []api.Edge{{From: 1, To: 0}, {From: 0, To: 0}, {From: 2, To: 0, Neg: true}}
	if got := strata.Edges(coreOf(t, "p :- q, not r, p. s :- 1 < 2.").Rules); !slices.Equal(got, wantEdges) {
		t.Errorf("Edges = %v, want %v", got, wantEdges)
	}
}

// ring is a chain of all predicates, from 0 on, that comes back to 0.
func ring() []api.Edge {
	var es []api.Edge
	for p := range api.MaxPreds {
		es = append(es, api.Edge{From: p, To: (p + 1) % api.MaxPreds})
	}
	return es
}

func upTo(n int) []int {
	ns := make([]int, n)
	for i := range ns {
		ns[i] = i
	}
	return ns
}

func TestGreatest(t *testing.T) {
	all := upTo(api.MaxPreds)
	es := ring()
	wantComponents(t, api.MaxPreds, es, [][]int{all})
	wantLevels(t, api.MaxPreds, es, make([]int, api.MaxPreds), api.OK)
	es[127].Neg = true
	wantCycle(t, api.MaxPreds, es, append([]int{127}, all[:127]...))
	chain := es[:127]
	for i := range chain {
		chain[i].Neg = true
	}
	wantLevels(t, api.MaxPreds, chain, all, api.OK)
	wantHolds(t, api.MaxPreds, chain, all, true)
	var each [][]int
	for p := range api.MaxPreds {
		each = append(each, []int{p})
	}
	wantComponents(t, api.MaxPreds, chain, each)
	for i := range chain {
		chain[i].From, chain[i].To = chain[i].To, chain[i].From
	}
	slices.Reverse(each)
	wantComponents(t, api.MaxPreds, chain, each)
	backwards := slices.Clone(all)
	slices.Reverse(backwards)
	wantLevels(t, api.MaxPreds, chain, backwards, api.OK)
}

func TestEveryPair(t *testing.T) {
	var es []api.Edge
	for from := range api.MaxPreds {
		for to := range api.MaxPreds {
			es = append(es, api.Edge{From: from, To: to})
		}
	}
	wantComponents(t, api.MaxPreds, es, [][]int{upTo(api.MaxPreds)})
	wantLevels(t, api.MaxPreds, es, make([]int, api.MaxPreds), api.OK)
	es[130].Neg = true // 1 to 2
	wantBad(t, api.MaxPreds, es, 130)
	wantCycle(t, api.MaxPreds, es, []int{130, 2*128 + 1})
}

// TestDepth lets a call that goes one call deeper an edge run out of its stack.
func TestDepth(t *testing.T) {
	var es []api.Edge
	var walk []int
	for range 4000 {
		for i, e := range ring() {
			walk = append(walk, len(es))
			es = append(es, e)
			es = append(es, api.Edge{From: i, To: i})
		}
	}
	es = append(es, api.Edge{From: 127, To: 0, Neg: true})
	rules := slices.Repeat([]api.Rule{{Pos: []api.Pattern{pat(0)}}}, 500000)
	defer debug.SetMaxStack(debug.SetMaxStack(1 << 18))
	if got, e := strata.Bad(api.MaxPreds, es); got != len(es)-1 || e != api.OK {
		t.Errorf("Bad = %d, %d", got, e)
	}
	if got, e := strata.Components(api.MaxPreds, es); len(got) != 1 || e != api.OK {
		t.Errorf("Components = %d, %d", len(got), e)
	}
	if got, e := strata.Levels(api.MaxPreds, es); len(got) != 0 || e != api.ErrStrata {
		t.Errorf("Levels = %d, %d", len(got), e)
	}
	if got, e := strata.Cycle(api.MaxPreds, es); len(got) != 128 || e != api.OK {
		t.Errorf("Cycle = %v, %d", got, e)
	}
	if got, e := strata.Levels(api.MaxPreds, es[:len(es)-1]); len(got) != 128 || e != api.OK {
		t.Errorf("Levels = %d, %d", len(got), e)
	}
	if strata.Cyclic(api.MaxPreds, es, walk) || strata.Holds(api.MaxPreds, es, make([]int, 128)) || !strata.Holds(api.MaxPreds, es[:len(es)-1], make([]int, 128)) {
		t.Error("Cyclic, Holds")
	}
	walk[len(walk)-1] = len(es) - 1
	if !strata.Cyclic(api.MaxPreds, es, walk) {
		t.Error("Cyclic of a long walk")
	}
	if got := strata.Edges(rules); len(got) != len(rules) {
		t.Errorf("Edges = %d", len(got))
	}
}

// Memory (P2)

// roomy is a list with spare room behind it that is filled.
func roomy[T any](list []T, spare T) []T {
	return append(slices.Clone(list), spare, spare, spare)[:len(list)]
}

func whole[T any](list []T) []T { return slices.Clone(list[:cap(list)]) }

func TestHandedIn(t *testing.T) {
	spare := api.Edge{From: 1, To: 0, Neg: true, Rule: 77}
	for _, g := range graphs {
		es := roomy(edges(t, g.edges), spare)
		levels := roomy(make([]int, g.n), 7)
		walk := roomy(numbers(t, g.closing), 7)
		before, levelsBefore, walkBefore := whole(es), whole(levels), whole(walk)
		strata.Components(g.n, es)
		strata.Bad(g.n, es)
		strata.Levels(g.n, es)
		strata.Cycle(g.n, es)
		strata.Holds(g.n, es, levels)
		strata.Cyclic(g.n, es, walk)
		if !slices.Equal(before, whole(es)) || !slices.Equal(levelsBefore, whole(levels)) || !slices.Equal(walkBefore, whole(walk)) {
			t.Errorf("%v: changed to %v, %v, %v", g, es, levels, walk)
		}
	}
	rules := roomy([]api.Rule{{Head: pat(1), Pos: roomy([]api.Pattern{pat(2), pat(3)}, pat(9)), Neg: roomy([]api.Pattern{pat(4)}, pat(9))}}, api.Rule{Clause: 9})
	want := []api.Rule{{Head: pat(1), Pos: []api.Pattern{pat(2), pat(3)}, Neg: []api.Pattern{pat(4)}}}
	strata.Edges(rules)
	if !reflect.DeepEqual(rules, want) || rules[:2][1].Clause != 9 || rules[0].Pos[:3][2].Pred != 9 || rules[0].Neg[:2][1].Pred != 9 {
		t.Errorf("Edges changed its rules to %v", rules)
	}
}

// scribble writes into all of a list, its spare room too.
func scribble[T any](list []T, value T) {
	list = list[:cap(list)]
	for i := range list {
		list[i] = value
	}
}

func TestHandedOut(t *testing.T) {
	for _, g := range graphs {
		es := edges(t, g.edges)
		before := slices.Clone(es)
		comps, _ := strata.Components(g.n, es)
		want := lists(t, g.components)
		for i := range comps {
			scribble(comps[i], -5)
			for j := i + 1; j < len(comps); j++ {
				if !slices.Equal(comps[j], want[j]) {
					t.Errorf("%v: lists %d and %d share memory", g, i, j)
				}
			}
		}
		scribble(comps, nil)
		levels, _ := strata.Levels(g.n, es)
		scribble(levels, -5)
		cycle, _ := strata.Cycle(g.n, es)
		scribble(cycle, -5)
		if !slices.Equal(before, es) {
			t.Errorf("%v: an answer shares memory with the edges", g)
		}
	}
	TestGraphs(t)
	rules := []api.Rule{{Head: pat(1), Pos: []api.Pattern{pat(2)}}}
	first, second := strata.Edges(rules), strata.Edges(rules)
	scribble(first, api.Edge{From: -5})
	if want := (api.Edge{From: 2, To: 1}); second[0] != want || strata.Edges(rules)[0] != want {
		t.Error("two answers of Edges share memory")
	}
}

// The other lists of Components, told backwards, keep as well.
func TestHandedOutBackwards(t *testing.T) {
	es := edges(t, "0>1 1>0 2>3 3>2 4>5 5>4 5>6")
	comps, _ := strata.Components(8, es)
	for i := len(comps) - 1; i >= 0; i-- {
		_ = append(comps[i], -5)
		scribble(comps[i], -5)
	}
	comps, _ = strata.Components(8, es)
	for i := len(comps) - 1; i > 0; i-- {
		scribble(comps[i], -5)
		if slices.Contains(comps[i-1], -5) {
			t.Errorf("lists %d and %d share memory", i-1, i)
		}
	}
	wantComponents(t, 8, es, [][]int{{0, 1}, {2, 3}, {4, 5}, {6}, {7}})
}
