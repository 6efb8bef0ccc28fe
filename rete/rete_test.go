package rete_test

import (
	"math"
	"runtime"
	"slices"
	"strconv"
	"testing"

	"edict/api"
	"edict/rete"
)

// The examples

func TestExample1(t *testing.T) {
	n := made(t, consts(), goes())
	wantLive(t, n, 0)
	wantRows(t, n)
	wantConflict(t, n)
	wantChanges(t, n)
	wantTokens(t, n, 0, []int{})
	wantTokens(t, n, 1)
	wantTokens(t, n, 2)
	wantNoNode(t, n, 3)
	wantNoNode(t, n, -1)
}

func TestExamples2To6(t *testing.T) {
	n := made(t, consts(), goes())
	wantAssert(t, n, 2, 1, row(edge, 1, 2))
	wantLive(t, n, 2)
	wantConflict(t, n, act(0, 1, 2))
	wantChanges(t, n, came(0, 1, 2))

	wantAssert(t, n, 9, 1, row(stop, 2))
	wantLive(t, n, 1)
	wantConflict(t, n)
	wantChanges(t, n, went(0, 1, 2))
	wantAssert(t, n, 9, 0, row(stop, 2))
	wantRefused(t, n, 0, api.ErrCap)

	wantRefused(t, n, 2, api.ErrCap, row(edge, 0, 1))
	wantRows(t, n, row(edge, 1, 2), row(stop, 2))
	wantAssert(t, n, 3, 1, row(edge, 0, 1))
	wantTokens(t, n, 1, []int{0, 1}, []int{1, 2})
	wantTokens(t, n, 2, []int{0, 1})

	wantUndo(t, n, 1, api.OK)
	wantRows(t, n, row(edge, 1, 2))
	wantLive(t, n, 2)
	wantConflict(t, n, act(0, 1, 2))
	wantChanges(t, n, came(0, 1, 2))

	wantRefused(t, n, 9, api.ErrArg, row(edge, 1, 3))
	wantRefused(t, n, 9, api.ErrArg, row(-1))
	wantRefused(t, n, 9, api.ErrArg, row(edge, 0, 0), row(edge, 1, 3))
	wantAssert(t, n, 9, 1, row(5))
	wantAssert(t, n, 9, 1, row(edge, 1))
	wantRows(t, n, row(edge, 1, 2), row(5), row(edge, 1))
	wantLive(t, n, 2)
	wantChanges(t, n)
}

func TestExample7(t *testing.T) {
	n := made(t, consts(), goes())
	wantAssert(t, n, 1, 2, row(edge, 1, 2), row(stop, 2))
	wantLive(t, n, 1)
	wantRefused(t, made(t, consts(), goes()), 1, api.ErrCap, row(edge, 1, 2))
}

func TestExample8(t *testing.T) {
	wantNew(t, append(consts(), consts()[1]), compiled(t, goes()), api.ErrConst)
}

// P12.1

func TestNewOfConstants(t *testing.T) {
	p := compiled(t, goes())
	wantNew(t, nil, p, api.OK)
	wantNew(t, consts(), p, api.OK)
	wantNew(t, ints(api.MaxConsts), p, api.OK)
	wantNew(t, ints(api.MaxConsts+1), p, api.ErrConst)
	for _, wrong := range []api.Const{{}, {Kind: api.KVar, Text: "X"}, {Kind: api.KName, Text: "A"}, {Kind: api.KInt, Text: "a"}, consts()[0]} {
		wantNew(t, append(consts(), wrong), p, api.ErrConst)
	}
	// A name and a text with the same bytes are two constants.
	wantNew(t, append(consts(), api.Const{Kind: api.KText, Text: "a"}), p, api.OK)
}

func TestNewOfPlans(t *testing.T) {
	wantNew(t, consts(), api.Plan{}, api.ErrArg)
	wantNew(t, nil, compiled(t), api.OK)
	p := compiled(t, goes())
	p.Ends[0] = 3
	wantNew(t, consts(), p, api.ErrArg)
	p.Ends[0] = -1
	wantNew(t, consts(), p, api.ErrArg)
	p.Ends[0] = 2
	wantNew(t, consts(), p, api.OK)
	p.Nodes[2].Links[0].Var = 2
	wantNew(t, consts(), p, api.ErrArg)
	// The constants are judged ahead of the plan.
	wantNew(t, []api.Const{{}}, p, api.ErrConst)
	wantNew(t, []api.Const{{}}, compiled(t, rule(pat(edge, c(1)))), api.ErrConst)
}

func TestNewOfPlansConstants(t *testing.T) {
	for _, r := range []api.Rule{
		rule(pat(edge, c(2), v(0))),
		rule(pat(edge, v(0), c(2))),
		rule(pat(edge, v(0), v(0)), not(pat(stop, c(2)))),
		rule(pat(edge, v(0), v(1)), test(v(0), api.OpLt, c(2))),
		rule(test(c(2), api.OpEq, c(0))),
		rule(pat(edge, c(0), v(0)), not(pat(edge, c(1), v(0))), test(c(2), api.OpNe, v(0))),
	} {
		p := compiled(t, goes(), r)
		wantNew(t, consts(), p, api.OK)
		wantNew(t, consts()[:2], p, api.ErrArg)
		wantNew(t, nil, p, api.ErrArg)
	}
	// A variable's number is no id.
	wide := rule(pat(edge, v(0), v(1), v(2), v(3)), test(v(3), api.OpNe, v(2)), not(pat(stop, v(3))))
	wantNew(t, nil, compiled(t, wide), api.OK)
	wantNew(t, consts()[:1], compiled(t, wide), api.OK)
	wantNew(t, consts(), compiled(t, rule(pat(edge, c(math.MaxInt)))), api.ErrArg)
}

// P12.2

func TestAssertOfWrongRows(t *testing.T) {
	n := made(t, consts(), goes())
	wantAssert(t, n, most, 2, row(edge, 1, 2), row(edge, 0, 2))
	good := row(stop, 2)
	for _, wrong := range []api.Row{
		row(-1), row(math.MinInt), row(edge, 0, 3), row(edge, 3, 0), row(edge, -1, 0), row(edge, 0, -1), row(edge, math.MaxInt, 0),
		row(edge, 0, math.MinInt), row(edge, 65536+1, 0), row(0, 0, 0, 0, 0, 0, 0, 0, 0, 0), row(9, 0, 0, 0, 0, 0, 0, 0, 0, 0), row(9, 3), row(-1, 1, 2),
	} {
		wantRefused(t, n, most, api.ErrArg, wrong)
		wantRefused(t, n, most, api.ErrArg, wrong, good)
		wantRefused(t, n, most, api.ErrArg, good, wrong)
		// What may not be comes ahead of the cap.
		wantRefused(t, n, 0, api.ErrArg, good, wrong)
	}
	wantAssert(t, n, most, 4, good, row(math.MaxInt), row(9, 0, 1, 2, 0, 1, 2, 0, 1), row(edge))
	wantRows(t, n, row(edge, 1, 2), row(edge, 0, 2), good, row(math.MaxInt), row(9, 0, 1, 2, 0, 1, 2, 0, 1), row(edge))
	none := made(t, nil, rule(pat(edge, v(0))), rule(pat(stop)))
	wantRefused(t, none, most, api.ErrArg, row(edge, 0))
	wantAssert(t, none, most, 1, row(stop))
	wantConflict(t, none, act(1))
}

func TestAssertOfRowsThatAreThere(t *testing.T) {
	n := made(t, consts(), goes())
	wantAssert(t, n, most, 2, row(edge, 1, 2), row(edge, 2, 1), row(edge, 1, 2))
	wantAssert(t, n, most, 0, row(edge, 2, 1), row(edge, 1, 2), row(edge, 2, 1))
	wantAssert(t, n, most, 3, row(edge, 1, 1), row(edge, 1, 2), row(stop, 0), row(edge, 1, 1), row(edge, 0, 0))
	wantRows(t, n, row(edge, 1, 2), row(edge, 2, 1), row(edge, 1, 1), row(stop, 0), row(edge, 0, 0))
	wantConflict(t, n, act(0, 1, 1), act(0, 1, 2), act(0, 2, 1))
	// Rows of one predicate that differ in length alone, or in the predicate alone, are different.
	wantAssert(t, n, most, 7, row(edge), row(edge, 0), row(edge, 0, 0, 0), row(7, 0, 0), row(stop), row(stop, 0, 0), row(7, 0))
}

// The number that is judged is that behind the whole call.
func TestLimitIsJudgedAtTheEnd(t *testing.T) {
	full := func() *rete.Net {
		n := made(t, consts(), goes())
		wantAssert(t, n, most, 3, row(edge, 1, 1), row(edge, 1, 2), row(edge, 0, 2))
		wantLive(t, n, 6)
		return n
	}
	n := full()
	wantAssert(t, n, 6, 0)
	wantRefused(t, n, 5, api.ErrCap)
	wantRefused(t, n, 5, api.ErrCap, row(edge, 1, 1))
	wantRefused(t, n, 5, api.ErrCap, row(8), row(edge, 1), row(stop, 0))
	wantRefused(t, n, 3, api.ErrCap, row(stop, 2))
	wantAssert(t, n, 4, 1, row(stop, 2))
	wantLive(t, n, 4)
	wantRefused(t, n, 3, api.ErrCap)
	wantAssert(t, n, 3, 1, row(stop, 1))
	wantRefused(t, n, 2, api.ErrCap, row(stop, 0))
	// It goes up to eight in between.
	n = full()
	wantRefused(t, n, 4, api.ErrCap, row(edge, 2, 2), row(stop, 2))
	wantAssert(t, n, 5, 2, row(edge, 2, 2), row(stop, 2))
	n = full()
	wantAssert(t, n, 5, 2, row(stop, 2), row(edge, 2, 2))
	wantLive(t, n, 5)
}

func TestLimitNone(t *testing.T) {
	n := made(t, consts(), goes())
	wantAssert(t, n, 0, 0)
	wantAssert(t, n, 0, 3, row(stop, 0), row(7, 0), row(edge, 0))
	wantRefused(t, n, 0, api.ErrCap, row(edge, 0, 0))
	wantRefused(t, n, 0, api.ErrCap, row(8), row(edge, 0, 0), row(9))
	// Here there is a token ahead of all rows, and one that a row takes away.
	n = made(t, consts(), rule(not(pat(stop))))
	wantRefused(t, n, 0, api.ErrCap)
	wantRefused(t, n, 0, api.ErrCap, row(edge, 0, 0))
	wantAssert(t, n, 0, 1, row(stop))
	wantLive(t, n, 0)
	n = made(t, consts(), rule(test(c(0), api.OpLt, c(1))))
	wantRefused(t, n, 0, api.ErrCap)
	wantAssert(t, n, 1, 0)
	n = made(t, consts(), rule())
	wantAssert(t, n, 0, 1, row(stop))
}

// cross is a rule of so many patterns that share no variable, of the predicates 0, 1, .. or of 0 alone.
func cross(count int, preds int) api.Rule {
	var all []any
	for num := range count {
		all = append(all, pat(num%preds, v(num)))
	}
	return rule(all...)
}

// walk is a rule of so many edges, each from where the last one ends.
func walk(count int) api.Rule {
	var all []any
	for num := range count {
		all = append(all, pat(edge, v(num), v(num+1)))
	}
	return rule(all...)
}

// all is the rows of a predicate with so many places, of all ids below count.
func all(pred, places, count int) []api.Row {
	rows := []api.Row{row(pred)}
	for range places {
		var longer []api.Row
		for _, r := range rows {
			for id := range count {
				longer = append(longer, row(pred, append(slices.Clone(r.Args), id)...))
			}
		}
		rows = longer
	}
	return rows
}

// What would take longer than anyone can wait is refused.
func TestLimitBoundsTheWork(t *testing.T) {
	rows := all(edge, 1, 20)
	for pred := 1; pred < 16; pred++ {
		rows = append(rows, all(pred, 1, 20)...)
	}
	for _, r := range []api.Rule{cross(16, 1), cross(16, 16), cross(16, 5)} {
		for _, limit := range []uint64{0, 100, 5000, 1 << 40, most - 1} {
			wantRefused(t, made(t, ints(20), r), limit, api.ErrCap, rows...)
			n := made(t, ints(20), r, rule(not(pat(17)), test(c(0), api.OpEq, c(0))))
			wantRefused(t, n, limit, api.ErrCap, append(slices.Clone(rows), row(17))...)
		}
	}
	for _, r := range []api.Rule{walk(15), rule(pat(edge, v(0), v(1)), test(v(0), api.OpNe, v(1)), pat(edge, v(2), v(0)), pat(edge, v(2), v(3)), pat(edge, v(4), v(5)), pat(edge, v(5), v(1)), pat(edge, v(6), v(7)))} {
		for _, limit := range []uint64{399, 400, 5000, 60000} {
			wantRefused(t, made(t, ints(20), r), limit, api.ErrCap, all(edge, 2, 20)...)
		}
	}
}

// refusedAtOnce holds that an Assert is refused with little work: as tokens take room, how many were made is seen by what was allotted.
func refusedAtOnce(t *testing.T, n *rete.Net, limit uint64, rows ...api.Row) {
	t.Helper()
	var was, now runtime.MemStats
	runtime.ReadMemStats(&was)
	got, e := n.Assert(limit, rows...)
	runtime.ReadMemStats(&now)
	if got != 0 || e != api.ErrCap {
		t.Errorf("Assert(%d, ..) = %d, %d, want ErrCap", limit, got, e)
	}
	if took := now.TotalAlloc - was.TotalAlloc; took > 1<<20 {
		t.Errorf("an Assert that one token too many refuses has allotted %d bytes", took)
	}
}

// Behind the first token that is too many none is made.
func TestNoTokenIsMadeBehindTheLimit(t *testing.T) {
	const many = 30000
	cs := ints(many)
	// One row meets many tokens.
	n := made(t, cs, rule(pat(edge, v(0), v(1)), pat(stop, v(1))))
	for id := range many {
		wantAssert(t, n, most, 1, row(edge, id, 7))
	}
	refusedAtOnce(t, n, many, row(stop, 7))
	wantAssert(t, n, 2*many, 1, row(stop, 7))
	// One token meets many rows.
	n = made(t, cs, rule(pat(stop, v(0)), pat(edge, v(0), v(1))))
	for id := range many {
		wantAssert(t, n, most, 1, row(edge, 7, id))
	}
	refusedAtOnce(t, n, 1, row(stop, 7))
	wantAssert(t, n, many+1, 1, row(stop, 7))
	// One token comes to many nodes, one row to many others.
	var rules []api.Rule
	var rows []api.Row
	for pred := 2; pred < 2+many; pred++ {
		rules = append(rules, rule(pat(stop, v(0)), pat(pred, v(0))), rule(pat(pred, v(0)), pat(edge, v(0))))
		rows = append(rows, row(pred, 7))
	}
	n = made(t, cs, rules...)
	wantAssert(t, n, many, many, rows...)
	refusedAtOnce(t, n, many+1, row(stop, 7))
	refusedAtOnce(t, n, many, row(edge, 7))
	wantAssert(t, n, 3*many+1, 2, row(stop, 7), row(edge, 7))
}

// Row by row it comes to the same: those up to the limit stand.
func TestLimitRowByRow(t *testing.T) {
	n := made(t, ints(20), cross(16, 1))
	wantAssert(t, n, 16, 1, row(edge, 3))
	wantLive(t, n, 16)
	wantRefused(t, n, 131069, api.ErrCap, row(edge, 4))
	wantAssert(t, n, 131070, 1, row(edge, 4))
	wantLive(t, n, 131070)
	for id := 5; id < 20; id++ {
		if got, e := n.Assert(200000, row(edge, id)); got != 0 || e != api.ErrCap {
			t.Errorf("Assert(200000, edge(%d)) = %d, %d, want ErrCap", id, got, e)
		}
	}
	wantLive(t, n, 131070)
	wantUndo(t, n, 1, api.OK)
	wantLive(t, n, 16)
	wantTokens(t, n, 16, slices.Repeat([]int{3}, 16))
	wantUndo(t, n, 0, api.OK)
	wantLive(t, n, 0)
}

// The limit is that of joins without links too, exactly.
func TestLimitOfJoinsWithoutLinks(t *testing.T) {
	// Of three rows: 3, 9 and 27 tokens; the second rule shares the first node and has 3 times 2; the third has no link but a constant.
	rules := []api.Rule{cross(3, 1), rule(pat(edge, v(0)), pat(stop, v(1))), rule(pat(edge, c(1)), pat(edge, v(0)))}
	rows := append(all(edge, 1, 3), row(stop, 0), row(stop, 2))
	n := made(t, ints(3), rules...)
	wantRefused(t, n, 3+9+27+6+1+3-1, api.ErrCap, rows...)
	wantAssert(t, n, 3+9+27+6+1+3, 5, append(rows, rows...)...)
	wantLive(t, n, 49)
	wantRefused(t, n, 49+3-1, api.ErrCap, append(rows, row(stop, 1), row(stop, 1), row(stop, 2))...)
	wantAssert(t, n, 49+3, 1, append(rows, row(stop, 1), row(stop, 1), row(stop, 2))...)
}

// Below a join with links those without have only so many tokens as come down to them.
func TestLimitOfJoinsBelowLinks(t *testing.T) {
	n := made(t, ints(20), rule(pat(edge, v(0)), pat(stop, v(0)), pat(2, v(1)), pat(3, v(2)), pat(4, v(3))))
	rows := slices.Concat(all(2, 1, 20), all(3, 1, 20), all(4, 1, 20))
	wantAssert(t, n, 0, 60, rows...)
	wantAssert(t, n, 20, 20, all(edge, 1, 20)...)
	wantRefused(t, n, 20+1+20+400+8000-1, api.ErrCap, row(stop, 3))
	wantAssert(t, n, 20+1+20+400+8000, 1, row(stop, 3))
	wantLive(t, n, 8441)
}

// P12.3

func TestUndo(t *testing.T) {
	n := made(t, consts(), goes())
	wantUndo(t, n, 0, api.OK)
	wantUndo(t, n, 1, api.ErrArg)
	wantAssert(t, n, most, 4, row(edge, 1, 2), row(edge, 0, 1), row(stop, 2), row(edge, 0, 2))
	for _, mark := range []int{-1, 5, math.MinInt, math.MaxInt} {
		was := n.Mark()
		wantUndo(t, n, mark, api.ErrArg)
		if n.Mark() != was {
			t.Errorf("Undo(%d) changed Mark to %d", mark, n.Mark())
		}
	}
	wantUndo(t, n, 4, api.OK)
	wantConflict(t, n, act(0, 0, 1))
	// A mark may lie within the rows of one Assert.
	wantUndo(t, n, 2, api.OK)
	wantRows(t, n, row(edge, 1, 2), row(edge, 0, 1))
	wantLive(t, n, 4)
	wantConflict(t, n, act(0, 0, 1), act(0, 1, 2))
	// What was taken out may come again, elsewhere.
	wantAssert(t, n, most, 2, row(edge, 0, 2), row(stop, 2))
	wantRows(t, n, row(edge, 1, 2), row(edge, 0, 1), row(edge, 0, 2), row(stop, 2))
	wantConflict(t, n, act(0, 0, 1))
	wantUndo(t, n, 0, api.OK)
	wantRows(t, n)
	wantLive(t, n, 0)
	wantConflict(t, n)
}

// P12.4

func TestSortedByConstants(t *testing.T) {
	cs := []api.Const{{Kind: api.KText, Text: "a"}, {Kind: api.KName, Text: "b"}, {Kind: api.KInt, Int: 5}, {Kind: api.KName, Text: "a"}, {Kind: api.KInt, Int: -9}, {Kind: api.KText}}
	// In order: 4, 2, 3, 1, 5, 0.
	n := made(t, cs, rule(pat(edge, v(0), v(1))), rule(pat(stop, v(0))))
	wantAssert(t, n, most, 8, row(edge, 0, 0), row(edge, 0, 4), row(edge, 4, 0), row(edge, 3, 1), row(edge, 1, 3), row(edge, 4, 2), row(stop, 0), row(stop, 5))
	wantTokens(t, n, 1, []int{4, 2}, []int{4, 0}, []int{3, 1}, []int{1, 3}, []int{0, 4}, []int{0, 0})
	wantConflict(t, n, act(0, 4, 2), act(0, 4, 0), act(0, 3, 1), act(0, 1, 3), act(0, 0, 4), act(0, 0, 0), act(1, 5), act(1, 0))
	wantChanges(t, n, came(0, 4, 2), came(0, 4, 0), came(0, 3, 1), came(0, 1, 3), came(0, 0, 4), came(0, 0, 0), came(1, 5), came(1, 0))
	wantUndo(t, n, 2, api.OK)
	wantAssert(t, n, most, 2, row(stop, 2), row(edge, 5, 1))
	wantChanges(t, n, went(0, 4, 2), went(0, 4, 0), went(0, 3, 1), went(0, 1, 3), came(0, 5, 1), came(1, 2), went(1, 5), went(1, 0))
}

func TestIdsUpToTheLast(t *testing.T) {
	n := made(t, ints(api.MaxConsts), rule(pat(edge, v(0), v(1)), pat(edge, v(1), v(2)), not(pat(stop, v(2)))), rule(pat(edge, c(65535), v(0))))
	wantAssert(t, n, most, 4, row(edge, 65535, 32768), row(edge, 32768, 65535), row(edge, 0, 65535), row(stop, 65535))
	wantConflict(t, n, act(0, 32768, 65535, 32768), act(0, 0, 65535, 32768), act(1, 32768))
	wantTokens(t, n, 2, []int{65535, 32768, 65535}, []int{32768, 65535, 32768}, []int{0, 65535, 32768})
}

func TestTokensOfNoNode(t *testing.T) {
	n := made(t, consts(), goes(), walk(3))
	for _, node := range []int{-1, 5, 6, math.MinInt, math.MaxInt} {
		wantNoNode(t, n, node)
	}
	wantTokens(t, n, 4)
	wantNoNode(t, made(t, nil), 1)
	wantTokens(t, made(t, nil), 0, []int{})
}

// P12.5

func TestChangesAreTheDifference(t *testing.T) {
	n := made(t, consts(), goes())
	wantAssert(t, n, most, 1, row(edge, 1, 2))
	wantAssert(t, n, most, 2, row(edge, 0, 2), row(edge, 0, 1))
	wantAssert(t, n, most, 1, row(stop, 1))
	wantChanges(t, n, came(0, 0, 2), came(0, 1, 2))
	// It goes and comes back.
	wantAssert(t, n, most, 1, row(stop, 2))
	wantConflict(t, n)
	wantUndo(t, n, 4, api.OK)
	wantChanges(t, n)
	// It goes, is told, and comes back.
	wantAssert(t, n, most, 1, row(stop, 2))
	wantChanges(t, n, went(0, 0, 2), went(0, 1, 2))
	wantUndo(t, n, 4, api.OK)
	wantChanges(t, n, came(0, 0, 2), came(0, 1, 2))
	// It comes and goes.
	wantAssert(t, n, most, 1, row(edge, 0, 0))
	wantAssert(t, n, most, 1, row(stop, 0))
	wantChanges(t, n)
	// It is taken out and brought in again by other rows.
	wantUndo(t, n, 1, api.OK)
	wantAssert(t, n, most, 1, row(edge, 0, 2))
	wantChanges(t, n)
	wantUndo(t, n, 0, api.OK)
	wantChanges(t, n, went(0, 0, 2), went(0, 1, 2))
}

func TestChangesSeeNothingOfWhatIsRefusedOrUndone(t *testing.T) {
	n := made(t, consts(), goes(), rule(not(pat(stop, c(2)))))
	wantRefused(t, n, 2, api.ErrCap, row(edge, 1, 2), row(edge, 0, 2), row(edge, 2, 2))
	wantRefused(t, n, 5, api.ErrArg, row(edge, 1, 2), row(edge, 3, 2))
	wantChanges(t, n, came(1))
	wantAssert(t, n, most, 2, row(edge, 1, 2), row(edge, 0, 1))
	wantRefused(t, n, 3, api.ErrCap, row(edge, 0, 2), row(stop, 2), row(edge, 0, 0), row(edge, 2, 2))
	mark := n.Mark()
	wantAssert(t, n, most, 3, row(edge, 0, 2), row(stop, 2), row(edge, 0, 0))
	wantUndo(t, n, mark, api.OK)
	wantRefused(t, n, 0, api.ErrCap, row(stop, 2))
	wantChanges(t, n, came(0, 0, 1), came(0, 1, 2))
	wantRefused(t, n, 0, api.ErrCap, row(stop, 2), row(stop, 1))
	wantChanges(t, n)
}

// Edges

func TestRulesWithoutPositiveAtoms(t *testing.T) {
	n := made(t, consts(), rule(), rule(test(c(0), api.OpLt, c(1))), rule(test(c(1), api.OpLt, c(0))),
		rule(test(c(0), api.OpLt, c(1)), not(pat(stop, c(2))), not(pat(edge))), rule(not(pat(stop, c(2)))))
	wantConflict(t, n, act(0), act(1), act(3), act(4))
	wantLive(t, n, 4)
	wantChanges(t, n, came(0), came(1), came(3), came(4))
	wantAssert(t, n, most, 1, row(edge))
	wantChanges(t, n, went(3))
	wantLive(t, n, 3)
	wantAssert(t, n, most, 1, row(stop, 2))
	wantChanges(t, n, went(4))
	wantConflict(t, n, act(0), act(1))
	wantLive(t, n, 1)
	wantUndo(t, n, 0, api.OK)
	wantChanges(t, n, came(3), came(4))
	wantLive(t, n, 4)
}

func TestRulesWithOneEnd(t *testing.T) {
	// Rule 1 ends where rules 0 and 2 do; rule 3 goes on from there.
	two := []any{pat(edge, v(0), v(1)), pat(edge, v(1), v(2))}
	n := made(t, consts(), rule(two...), rule(two...), rule(two...), rule(append(two, not(pat(stop, v(2))))...))
	wantAssert(t, n, most, 2, row(edge, 2, 0), row(edge, 0, 1))
	wantLive(t, n, 4)
	wantConflict(t, n, act(0, 2, 0, 1), act(1, 2, 0, 1), act(2, 2, 0, 1), act(3, 2, 0, 1))
	wantChanges(t, n, came(0, 2, 0, 1), came(1, 2, 0, 1), came(2, 2, 0, 1), came(3, 2, 0, 1))
	wantAssert(t, n, most, 1, row(stop, 1))
	wantChanges(t, n, went(3, 2, 0, 1))
	wantUndo(t, n, 1, api.OK)
	wantChanges(t, n, went(0, 2, 0, 1), went(1, 2, 0, 1), went(2, 2, 0, 1))
}

func TestRowsThatJoinWithThemselves(t *testing.T) {
	n := made(t, consts(), cross(3, 1), rule(pat(edge, v(0)), not(pat(edge, c(1)))))
	wantAssert(t, n, most, 1, row(edge, 1))
	wantTokens(t, n, 3, []int{1, 1, 1})
	wantTokens(t, n, 4)
	wantLive(t, n, 3)
	wantUndo(t, n, 0, api.OK)
	wantAssert(t, n, most, 2, row(edge, 2), row(edge, 0))
	wantTokens(t, n, 2, []int{0, 0}, []int{0, 2}, []int{2, 0}, []int{2, 2})
	wantTokens(t, n, 4, []int{0}, []int{2})
	wantAssert(t, n, most, 1, row(edge, 1))
	wantLive(t, n, 3+9+27)
}

// A row that has several shapes of one chain is put together with itself once, whichever of them comes first.
func TestRowsOfSeveralShapes(t *testing.T) {
	loop, any2, from := pat(edge, v(0), v(0)), pat(edge, v(0), v(1)), pat(edge, c(1), v(0))
	for _, r := range []api.Rule{
		rule(loop, pat(edge, v(1), v(2)), pat(edge, c(1), v(3))),
		rule(any2, pat(edge, v(2), v(2)), pat(edge, c(1), v(3))),
		rule(from, pat(edge, v(1), v(1)), pat(edge, v(2), v(3))),
		rule(any2, pat(edge, c(1), v(2)), pat(edge, v(3), v(3))),
	} {
		n := made(t, consts(), r, rule(loop), rule(any2), rule(from))
		wantAssert(t, n, most, 1, row(edge, 1, 1))
		wantTokens(t, n, 3, slices.Repeat([]int{1}, len(r.Vars)))
		wantUndo(t, n, 0, api.OK)
		wantLive(t, n, 0)
	}
}

func TestRowsThatBlockMany(t *testing.T) {
	n := made(t, consts(), rule(pat(edge, v(0), v(1)), not(pat(stop, v(1))), not(pat(2, v(0))), not(pat(3))))
	wantAssert(t, n, most, 9, all(edge, 2, 3)...)
	wantLive(t, n, 36)
	wantAssert(t, n, most, 1, row(stop, 2))
	wantLive(t, n, 9+6+6+6)
	wantAssert(t, n, most, 1, row(2, 0))
	wantLive(t, n, 9+6+4+4)
	wantConflict(t, n, act(0, 1, 0), act(0, 1, 1), act(0, 2, 0), act(0, 2, 1))
	wantAssert(t, n, most, 1, row(3))
	wantLive(t, n, 9+6+4)
	// What the first negation stops goes out of the second and third, blocked there or not.
	wantAssert(t, n, most, 1, row(stop, 0))
	wantLive(t, n, 9+3+2)
	wantTokens(t, n, 3, []int{1, 1}, []int{2, 1})
	wantUndo(t, n, 12, api.OK)
	wantLive(t, n, 9+6+4)
	wantUndo(t, n, 11, api.OK)
	wantLive(t, n, 9+6+4+4)
	wantUndo(t, n, 9, api.OK)
	wantLive(t, n, 36)
}

// What is blocked as it comes is let through when the row that blocks it goes; but rows go from the last on, so the token goes first.
func TestTokensThatComeBlocked(t *testing.T) {
	n := made(t, consts(), goes(), rule(pat(edge, v(0), v(1)), not(pat(edge, v(1), v(0)))))
	wantAssert(t, n, most, 1, row(stop, 2))
	wantAssert(t, n, most, 1, row(edge, 1, 2))
	wantConflict(t, n, act(1, 1, 2))
	wantAssert(t, n, most, 1, row(edge, 2, 1))
	wantConflict(t, n, act(0, 2, 1))
	wantAssert(t, n, most, 1, row(edge, 2, 2))
	wantConflict(t, n, act(0, 2, 1))
	wantUndo(t, n, 2, api.OK)
	wantConflict(t, n, act(1, 1, 2))
	wantUndo(t, n, 1, api.OK)
	wantConflict(t, n)
	wantLive(t, n, 0)
}

func TestTests(t *testing.T) {
	// Of 7, a and b, in this order.
	for op, want := range map[int][][]int{
		api.OpEq: {{0, 0}, {1, 1}, {2, 2}},
		api.OpNe: {{0, 1}, {0, 2}, {1, 0}, {1, 2}, {2, 0}, {2, 1}},
		api.OpLt: {{0, 1}, {0, 2}, {1, 2}},
		api.OpLe: {{0, 0}, {0, 1}, {0, 2}, {1, 1}, {1, 2}, {2, 2}},
		api.OpGt: {{1, 0}, {2, 0}, {2, 1}},
		api.OpGe: {{0, 0}, {1, 0}, {1, 1}, {2, 0}, {2, 1}, {2, 2}},
	} {
		n := made(t, consts(), rule(pat(edge, v(0), v(1)), test(v(0), op, v(1)), test(c(0), api.OpLe, v(1))))
		wantAssert(t, n, most, 9, all(edge, 2, 3)...)
		wantTokens(t, n, 2, want...)
		wantTokens(t, n, 3, want...)
		wantLive(t, n, uint64(9+2*len(want)))
	}
}

func TestWidestRules(t *testing.T) {
	// Sixteen variables, eight a row.
	var first, second []api.Slot
	for num := range 8 {
		first, second = append(first, v(num)), append(second, v(8+num))
	}
	n := made(t, ints(17), rule(pat(edge, first...), pat(stop, second...), pat(2, v(15), v(0), v(14), v(1), v(13), v(2), v(12), v(3)), not(pat(3, second...))))
	ids := []int{0, 1, 2, 3, 4, 5, 6, 7, 8, 9, 10, 11, 12, 13, 14, 15}
	wantAssert(t, n, most, 3, row(edge, ids[:8]...), row(stop, ids[8:]...), row(stop, 8, 9, 10, 11, 12, 13, 14, 16))
	wantAssert(t, n, most, 1, row(2, 15, 0, 14, 1, 13, 2, 12, 3))
	wantConflict(t, n, act(0, ids...))
	wantAssert(t, n, most, 1, row(3, 8, 9, 10, 11, 12, 13, 14, 16))
	wantConflict(t, n, act(0, ids...))
	wantAssert(t, n, most, 1, row(3, ids[8:]...))
	wantConflict(t, n)
	wantLive(t, n, 1+2+1)
}

// P12.7

func TestNilNet(t *testing.T) {
	var n *rete.Net
	wantAssert(t, n, 0, 0, row(-1))
	wantAssert(t, n, 0, 0)
	wantUndo(t, n, -1, api.OK)
	wantUndo(t, n, 5, api.OK)
	wantRows(t, n)
	wantLive(t, n, 0)
	wantTokens(t, n, 0)
	wantTokens(t, n, -7)
	wantConflict(t, n)
	wantChanges(t, n)
}

func TestTwoNets(t *testing.T) {
	p := compiled(t, goes())
	one, _ := rete.New(consts(), p)
	two, _ := rete.New(consts(), p)
	wantAssert(t, one, most, 2, row(edge, 1, 2), row(edge, 0, 1))
	wantAssert(t, two, most, 2, row(stop, 2), row(edge, 1, 2))
	wantChanges(t, two)
	wantChanges(t, one, came(0, 0, 1), came(0, 1, 2))
	wantUndo(t, one, 0, api.OK)
	wantLive(t, two, 1)
	wantRows(t, two, row(stop, 2), row(edge, 1, 2))
	wantAssert(t, one, most, 1, row(edge, 1, 2))
	wantConflict(t, one, act(0, 1, 2))
}

// Many rules with one beginning, and many shapes.
func TestManyRules(t *testing.T) {
	var rules []api.Rule
	for num := range 3000 {
		rules = append(rules, rule(pat(edge, v(0), v(1)), pat(2+num, v(1)), not(pat(stop, c(num)))), rule(pat(edge, c(num), v(0))))
	}
	n := made(t, ints(3000), rules...)
	wantLive(t, n, 0)
	wantAssert(t, n, most, 1, row(edge, 7, 8))
	wantConflict(t, n, act(15, 8))
	wantLive(t, n, 2)
	wantAssert(t, n, most, 2, row(2+40, 8), row(2+41, 8))
	wantConflict(t, n, act(15, 8), act(80, 7, 8), act(82, 7, 8))
	wantAssert(t, n, most, 1, row(stop, 41))
	wantChanges(t, n, came(15, 8), came(80, 7, 8))
	wantUndo(t, n, 0, api.OK)
	wantChanges(t, n, went(15, 8), went(80, 7, 8))
}

func TestManyRows(t *testing.T) {
	// A closed walk of 300 edges, then a way of two from each; and back, for every length.
	n := made(t, ints(300), walk(2), rule(pat(edge, v(0), v(1)), not(pat(stop, v(0)))))
	for id := range 300 {
		wantAssert(t, n, most, 1, row(edge, id, (id+1)%300))
	}
	wantLive(t, n, 900)
	if got := n.Conflict(); len(got) != 600 || !sameAct(got[0], act(0, 299, 0, 1)) || !sameAct(got[599], act(1, 0, 1)) {
		t.Errorf("Conflict has %d acts from %v to %v", len(got), got[0], got[len(got)-1])
	}
	for id := 299; id >= 0; id-- {
		t.Run(strconv.Itoa(id), func(t *testing.T) {
			wantUndo(t, n, id, api.OK)
			wantLive(t, n, uint64(max(3*id-1, 0)))
		})
	}
	wantChanges(t, n)
}
