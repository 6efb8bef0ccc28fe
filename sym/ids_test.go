package sym_test

import (
	"math"
	"math/rand"
	"slices"
	"testing"

	"edict/sym"
)

// P5 (sym)

func TestIdsExample(t *testing.T) {
	x := sym.NewIds("b", "a", "b")
	if x.Len() != 2 || x.Find("b") != 0 || x.Find("a") != 1 || x.Find("c") != -1 {
		t.Error("NewIds of b, a, b")
	}
	if k, there := x.At(1); k != "a" || !there {
		t.Errorf("At(1) = %q, %v", k, there)
	}
	if k, there := x.At(2); k != "" || there {
		t.Errorf("At(2) = %q, %v", k, there)
	}
	if id := x.Intern("c"); id != 2 {
		t.Errorf("Intern(c) = %d", id)
	}
	x.Cut(1)
	if x.Len() != 1 || x.Find("a") != -1 || x.Find("c") != -1 || x.Intern("c") != 1 || x.Intern("b") != 0 || x.Len() != 2 {
		t.Error("behind Cut(1)")
	}
}

func TestIdsEmpty(t *testing.T) {
	x := sym.NewIds[int]()
	if x == nil || x.Len() != 0 || x.Find(0) != -1 {
		t.Fatal("an Ids of no keys")
	}
	for id := range x.All() {
		t.Errorf("it gives the id %d", id)
	}
	x.Cut(0)
	if x.Intern(7) != 0 || x.Len() != 1 {
		t.Error("the first key of an Ids of none")
	}
}

func TestFindChangesNothing(t *testing.T) {
	x := sym.NewIds(1)
	x.Find(2)
	if x.Len() != 1 || x.Find(2) != -1 || x.Intern(3) != 1 {
		t.Error("Find put something in")
	}
}

func TestAtOutside(t *testing.T) {
	x := sym.NewIds(5, 6)
	for _, id := range []int{-1, 2, 3, math.MinInt, math.MaxInt} {
		if k, there := x.At(id); k != 0 || there {
			t.Errorf("At(%d) = %d, %v", id, k, there)
		}
	}
	x.Cut(1)
	if k, there := x.At(1); k != 0 || there {
		t.Errorf("At of what was cut = %d, %v", k, there)
	}
}

func TestCutEdges(t *testing.T) {
	x := sym.NewIds(5, 6, 7)
	for _, n := range []int{3, 4, math.MaxInt} {
		x.Cut(n)
		if x.Len() != 3 || x.Find(7) != 2 {
			t.Errorf("Cut(%d) changed something", n)
		}
	}
	for _, n := range []int{0, -1, math.MinInt} {
		x = sym.NewIds(5, 6, 7)
		x.Cut(n)
		if x.Len() != 0 || x.Find(5) != -1 || x.Intern(7) != 0 {
			t.Errorf("Cut(%d) left something", n)
		}
	}
}

func TestAllGivesWhatIsThereWhenItBegins(t *testing.T) {
	x := sym.NewIds("b")
	all := x.All()
	x.Intern("a")
	for range 2 {
		var got []string
		for id, k := range all {
			if id != len(got) {
				t.Errorf("the id %d comes with %q", id, k)
			}
			got = append(got, k)
		}
		if !slices.Equal(got, []string{"b", "a"}) {
			t.Errorf("All gave %v", got)
		}
	}
	x.Cut(1)
	for id := range all {
		if id > 0 {
			t.Error("All gives what was cut ahead of the ranging")
		}
	}
}

func TestAllEarlyLeave(t *testing.T) {
	x := sym.NewIds(5, 6, 7)
	all := x.All()
	for range 2 {
		calls := 0
		all(func(id int, k int) bool {
			calls++
			return id < 1
		})
		if calls != 2 {
			t.Errorf("%d calls, though the second one answered false", calls)
		}
	}
	if x.Len() != 3 || x.Find(7) != 2 {
		t.Error("ranging changed the Ids")
	}
}

func TestAllNested(t *testing.T) {
	x := sym.NewIds(5, 6, 7)
	pairs := 0
	all := x.All()
	for range all {
		for range all {
			pairs++
		}
	}
	if pairs != 9 {
		t.Errorf("%d pairs of three by three", pairs)
	}
}

func TestAllWhileItChanges(t *testing.T) {
	x := sym.NewIds(0, 1, 2)
	given := 0
	for range x.All() {
		if given++; given > 3 { // else a ranging that sees what comes would never end
			break
		}
		x.Intern(100 + given)
		x.Intern(200 + given)
	}
	if given > 3 {
		t.Errorf("%d pairs, though three were there", given)
	}
	for _, n := range []int{0, 1, 2} {
		x, given = sym.NewIds(0, 1, 2), 0
		for range x.All() {
			given++
			x.Cut(n)
		}
		if given > 3 || x.Len() != n {
			t.Errorf("with Cut(%d) in between: %d pairs, Len %d", n, given, x.Len())
		}
	}
	x, given = sym.NewIds(0, 1, 2), 0
	for range x.All() {
		if given++; given > 3 {
			break
		}
		x.Cut(0)
		for k := range 10 {
			x.Intern(1000*given + k)
		}
	}
	if given > 3 {
		t.Errorf("%d pairs, though three were there", given)
	}
}

// TestPanicOfYield: P1: what the caller's function panics with reaches the caller.
func TestPanicOfYield(t *testing.T) {
	x := sym.NewIds(1, 2)
	defer func() {
		if r := recover(); r != "mine" {
			t.Errorf("caught %v", r)
		}
		if x.Len() != 2 || x.Find(2) != 1 {
			t.Error("the Ids is not as it was")
		}
	}()
	for range x.All() {
		panic("mine")
	}
}

type pair struct {
	a int
	b string
}

func TestIdsOfOtherKeys(t *testing.T) {
	x := sym.NewIds(pair{1, "a"}, pair{1, "b"}, pair{1, "a"})
	if x.Len() != 2 || x.Find(pair{1, "b"}) != 1 || x.Find(pair{2, "b"}) != -1 {
		t.Error("keys that are structs")
	}
	y := sym.NewIds([2]int{1, 2}, [2]int{2, 1})
	if y.Find([2]int{2, 1}) != 1 || y.Find([2]int{}) != -1 {
		t.Error("keys that are arrays")
	}
	z := sym.NewIds[any](1, "1", int64(1), nil)
	if z.Len() != 4 || z.Find("1") != 1 || z.Find(nil) != 3 {
		t.Error("keys of an interface")
	}
}

// model is an Ids as plainly as it can be said: a list.
type model []int

func (m *model) intern(k int) int {
	if i := slices.Index(*m, k); i >= 0 {
		return i
	}
	*m = append(*m, k)
	return len(*m) - 1
}

func (m *model) cut(n int) {
	if n = max(n, 0); n < len(*m) {
		*m = slices.Clone((*m)[:n])
	}
}

func TestIdsAgainstAList(t *testing.T) {
	random := rand.New(rand.NewSource(5))
	for range 200 {
		x, other := sym.NewIds[int](), sym.NewIds(3, 1)
		var m model
		for range 60 {
			if k := random.Intn(20); random.Intn(6) > 0 {
				if got, want := x.Intern(k), m.intern(k); got != want {
					t.Fatalf("Intern(%d) = %d, want %d in %v", k, got, want, m)
				}
			} else {
				x.Cut(k - 2)
				m.cut(k - 2)
			}
			compare(t, x, m)
		}
		compare(t, other, model{3, 1}) // P5: two objects have nothing to do with each other
	}
}

func compare(t *testing.T, x *sym.Ids[int], m model) {
	t.Helper()
	if x.Len() != len(m) {
		t.Fatalf("Len() = %d, want %v", x.Len(), m)
	}
	for k := -1; k <= 20; k++ {
		if x.Find(k) != slices.Index(m, k) {
			t.Fatalf("Find(%d) = %d in %v", k, x.Find(k), m)
		}
	}
	var got []int
	for id, k := range x.All() {
		if at, there := x.At(id); id != len(got) || at != k || !there {
			t.Fatalf("At(%d) = %d, %v in %v", id, at, there, m)
		}
		got = append(got, k)
	}
	if !slices.Equal(got, m) {
		t.Fatalf("All gave %v, want %v", got, m)
	}
}

// P7 (sym)

func TestNewIdsKeepsNothing(t *testing.T) {
	keys := []int{4, 5, 6, 7}
	x := sym.NewIds(keys[:2]...)
	x.Intern(8)
	x.Cut(0)
	if !slices.Equal(keys, []int{4, 5, 6, 7}) {
		t.Errorf("the keys that were handed in are now %v", keys)
	}
	x = sym.NewIds(keys...)
	keys[0] = 9
	if k, _ := x.At(0); k != 4 || x.Find(4) != 0 || x.Find(9) != -1 {
		t.Error("writing into the keys that were handed in changed the Ids")
	}
}

func TestNilIds(t *testing.T) {
	var x *sym.Ids[string]
	if x.Intern("a") != 0 || x.Find("a") != 0 || x.Len() != 0 {
		t.Error("a nil Ids answers something")
	}
	for _, id := range []int{-1, 0, 1} {
		if k, there := x.At(id); k != "" || there {
			t.Errorf("At(%d) = %q, %v", id, k, there)
		}
		x.Cut(id)
	}
	for range x.All() {
		t.Error("a nil Ids gives something")
	}
}
