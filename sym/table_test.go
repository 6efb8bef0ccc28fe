package sym_test

import (
	"math"
	"math/rand"
	"slices"
	"strings"
	"testing"

	"edict/api"
	"edict/sym"
)

// P6 (sym)

func tableOf(t *testing.T, cs ...api.Const) *sym.Table {
	t.Helper()
	x := sym.New()
	for i, c := range cs {
		if id, e := x.Intern(c); id != i || e != api.OK {
			t.Fatalf("Intern(%v) = %d, %d, want %d", c, id, e, i)
		}
	}
	return x
}

func TestTableOfNone(t *testing.T) {
	x := sym.New()
	if x == nil || x.Len() != 0 || len(x.Sorted()) != 0 || len(x.Ranks()) != 0 || x.Find(num(0)) != -1 {
		t.Error("a new table has something")
	}
	if c, e := x.Const(0); c != (api.Const{}) || e != api.ErrArg {
		t.Errorf("Const(0) = %v, %d", c, e)
	}
}

func TestTableExamples(t *testing.T) {
	x := tableOf(t, text(""), num(7), name("q"), num(-7))
	if !slices.Equal(x.Sorted(), []int{3, 1, 2, 0}) || !slices.Equal(x.Ranks(), []int{3, 1, 2, 0}) {
		t.Errorf("Sorted %v, Ranks %v", x.Sorted(), x.Ranks())
	}
	x = tableOf(t, num(7), name("q"), num(-7), text(""))
	if !slices.Equal(x.Sorted(), []int{2, 0, 1, 3}) || !slices.Equal(x.Ranks(), []int{1, 2, 0, 3}) {
		t.Errorf("Sorted %v, Ranks %v", x.Sorted(), x.Ranks())
	}
}

func TestTableRefuses(t *testing.T) {
	x := tableOf(t, num(7), name("q"))
	for _, c := range []api.Const{
		{}, name("Q"), name("not"), name(""), {Kind: api.KInt, Int: 7, Text: "x"}, {Kind: api.KName, Int: 1, Text: "q"},
		{Kind: api.KVar, Text: "X"}, text(strings.Repeat("a", api.MaxText+1)),
	} {
		if id, e := x.Intern(c); id != 0 || e != api.ErrConst {
			t.Errorf("Intern(%.40v) = %d, %d", c, id, e)
		}
		if x.Len() != 2 || x.Find(c) != -1 {
			t.Errorf("%.40v was put in all the same", c)
		}
	}
	if id, e := x.Intern(num(8)); id != 2 || e != api.OK {
		t.Errorf("the next one has the id %d, %d", id, e)
	}
}

func TestTableKnowsWhatIsThere(t *testing.T) {
	x := tableOf(t, name("a"), text("a"), num(0), text(""), text("0"))
	for i, c := range []api.Const{name("a"), text("a"), num(0), text(""), text("0")} {
		if id, e := x.Intern(c); id != i || e != api.OK || x.Len() != 5 {
			t.Errorf("Intern(%v) again = %d, %d, Len %d", c, id, e, x.Len())
		}
		if got, e := x.Const(i); got != c || e != api.OK || x.Find(c) != i {
			t.Errorf("Const(%d) = %v, %d", i, got, e)
		}
		if got, there := x.At(i); got != c || !there {
			t.Errorf("At(%d) = %v, %v", i, got, there)
		}
	}
	for _, id := range []int{-1, 5, 6, math.MinInt, math.MaxInt} {
		if c, e := x.Const(id); c != (api.Const{}) || e != api.ErrArg {
			t.Errorf("Const(%d) = %v, %d", id, c, e)
		}
	}
}

func TestTableCut(t *testing.T) {
	x := tableOf(t, text(""), num(7), name("q"))
	x.Cut(1)
	if x.Len() != 1 || x.Find(num(7)) != -1 || !slices.Equal(x.Sorted(), []int{0}) || !slices.Equal(x.Ranks(), []int{0}) {
		t.Error("behind a Cut")
	}
	if c, e := x.Const(1); c != (api.Const{}) || e != api.ErrArg {
		t.Errorf("Const of what was cut = %v, %d", c, e)
	}
	if id, e := x.Intern(name("q")); id != 1 || e != api.OK || !slices.Equal(x.Ranks(), []int{1, 0}) {
		t.Errorf("what was cut comes again as %d, %d", id, e)
	}
}

func TestTableAll(t *testing.T) {
	want := []api.Const{num(2), num(1), name("a")}
	var got []api.Const
	for id, c := range tableOf(t, want...).All() {
		if id != len(got) {
			t.Errorf("the id %d comes with %v", id, c)
		}
		got = append(got, c)
	}
	if !slices.Equal(got, want) {
		t.Errorf("All gave %v", got)
	}
}

func TestTableFull(t *testing.T) {
	x := sym.New()
	for i := range api.MaxConsts {
		if id, e := x.Intern(num(int64(-i))); id != i || e != api.OK {
			t.Fatalf("Intern number %d = %d, %d", i, id, e)
		}
	}
	for range 2 {
		if id, e := x.Intern(num(1)); id != 0 || e != api.ErrFull || x.Len() != api.MaxConsts || x.Find(num(1)) != -1 {
			t.Errorf("Intern into a full table = %d, %d, Len %d", id, e, x.Len())
		}
	}
	if id, e := x.Intern(num(-77)); id != 77 || e != api.OK {
		t.Errorf("what is there, in a full table = %d, %d", id, e)
	}
	if id, e := x.Intern(name("Q")); id != 0 || e != api.ErrConst { // P4: the error that is named first
		t.Errorf("what is no constant, in a full table = %d, %d", id, e)
	}
	ranks := x.Ranks()
	if len(ranks) != api.MaxConsts || ranks[0] != api.MaxConsts-1 || ranks[api.MaxConsts-1] != 0 {
		t.Error("the ranks of a full table")
	}
	x.Cut(api.MaxConsts - 1)
	if id, e := x.Intern(num(1)); id != api.MaxConsts-1 || e != api.OK {
		t.Errorf("Intern behind a Cut of one = %d, %d", id, e)
	}
}

func TestSortedAndRanksAgainstCounting(t *testing.T) {
	random := rand.New(rand.NewSource(6))
	for range 100 {
		x := sym.New()
		for range random.Intn(40) {
			c := []api.Const{num(random.Int63n(9) - 4), name(string(rune('a' + random.Intn(9)))), text(string(rune(60 + random.Intn(9))))}[random.Intn(3)]
			x.Intern(c)
		}
		sorted, ranks := x.Sorted(), x.Ranks()
		if len(sorted) != x.Len() || len(ranks) != x.Len() {
			t.Fatalf("%d sorted, %d ranks of %d constants", len(sorted), len(ranks), x.Len())
		}
		for id, c := range x.All() {
			ahead := 0
			for _, other := range x.All() {
				if sym.Compare(other, c) < 0 {
					ahead++
				}
			}
			if ranks[id] != ahead || sorted[ahead] != id {
				t.Fatalf("%v has the rank %d, counted %d", c, ranks[id], ahead)
			}
		}
	}
}

// TestTablesApart: P5 of all layers.
func TestTablesApart(t *testing.T) {
	x, y := tableOf(t, num(1), num(2)), tableOf(t, num(2))
	x.Cut(0)
	x.Intern(name("a"))
	if y.Len() != 1 || y.Find(num(2)) != 0 || y.Find(name("a")) != -1 || x.Find(num(2)) != -1 {
		t.Error("one table sees what the other was told")
	}
}

// P7 (sym)

func TestTableHandsOutNewMemory(t *testing.T) {
	x := tableOf(t, num(7), name("q"), num(-7), text(""))
	for range 2 {
		sorted, ranks := x.Sorted(), x.Ranks()
		if !slices.Equal(sorted, []int{2, 0, 1, 3}) || !slices.Equal(ranks, []int{1, 2, 0, 3}) {
			t.Fatalf("Sorted %v, Ranks %v", sorted, ranks)
		}
		for i := range 4 {
			sorted[i], ranks[i] = 99, 98
		}
		_, _ = append(sorted, 97), append(ranks, 96)
	}
	if c, e := x.Const(0); c != num(7) || e != api.OK {
		t.Error("the table was changed through what it handed out")
	}
}

func TestNilTable(t *testing.T) {
	var x *sym.Table
	for _, c := range []api.Const{num(1), {}} {
		if id, e := x.Intern(c); id != 0 || e != api.OK {
			t.Errorf("Intern(%v) = %d, %d", c, id, e)
		}
	}
	for _, id := range []int{-1, 0, 1} {
		if c, e := x.Const(id); c != (api.Const{}) || e != api.OK {
			t.Errorf("Const(%d) = %v, %d", id, c, e)
		}
	}
	if len(x.Sorted()) != 0 || len(x.Ranks()) != 0 {
		t.Error("a nil table has ids")
	}
}
