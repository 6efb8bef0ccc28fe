package engine_test

import (
	"cmp"
	"fmt"
	"reflect"
	"runtime"
	"slices"
	"testing"

	"edict/api"
	"edict/engine"
)

// DOC.md's P1 and P2

func TestNone(t *testing.T) {
	var e *engine.Engine
	for range 2 {
		wantRun(t, e, []int{1}, 5, 5, api.Outcome{})
		wantRun(t, e, nil, most, most, api.Outcome{})
		if e.Info() != (api.Info{}) || e.Model() != "" || e.Has(api.Fact{}) || e.Has(fact("p", number(1))) || e.Fork() != nil {
			t.Error("a nil engine has something")
		}
		if src, facts := e.Texts(); src != "" || facts != "" {
			t.Error("a nil engine has texts")
		}
		for _, answer := range []any{e.Core(), e.Plan(), e.Rows(), e.Facts(), e.Conflict(), e.Eligible(), e.Log()} {
			if lists := listsIn(answer); slices.ContainsFunc(lists, func(l reflect.Value) bool { return l.Len() > 0 }) {
				t.Errorf("a nil engine answers %v", answer)
			}
		}
		e.Reset()
	}
}

// listsIn is all lists in a value, and in what they hold.
func listsIn(value any) []reflect.Value {
	var lists []reflect.Value
	var walk func(v reflect.Value)
	walk = func(v reflect.Value) {
		switch v.Kind() {
		case reflect.Slice:
			lists = append(lists, v)
			for num := range v.Len() {
				walk(v.Index(num))
			}
		case reflect.Struct:
			for num := range v.NumField() {
				walk(v.Field(num))
			}
		}
	}
	walk(reflect.ValueOf(value))
	return lists
}

// answers is all that an engine answers with lists in it.
func answers(e *engine.Engine) []any {
	return []any{e.Core(), e.Plan(), e.Rows(), e.Facts(), e.Conflict(), e.Eligible(), e.Log()}
}

// mixed has rules of all kinds, and has taken some steps: what fired, what is eligible, and what waits for its stratum.
func mixed(t *testing.T) *engine.Engine {
	t.Helper()
	e := load(t, "p(X, Y) :- q(X, Y), q(Y, _), X < Y, X != 9. r(X) :- q(X, X), q(a, X), not s(X, X), not p(X, a). s(X, Y) :- q(X, Y), not z. t :- not z.", `q(1, 2). q(2, 2). q(a, a). q(a, 2). q("x", 1).`)
	e.Run([]int{3, -1}, 4, most)
	if len(e.Eligible()) < 2 || len(e.Conflict()) < 6 || len(e.Log()) != 4 {
		t.Fatal(e.Eligible(), e.Conflict(), e.Log())
	}
	return e
}

// span is where a list lies, with its spare room.
type span struct{ from, to uintptr }

// No list of an answer lies where another does, of the same answer, of another, or of the same call made again.
func TestListsLieApart(t *testing.T) {
	e := mixed(t)
	fork := e.Fork()
	kept := slices.Concat(answers(e), answers(e), answers(fork))
	var spans []span
	for _, answer := range kept {
		for _, list := range listsIn(answer) {
			if list.Cap() > 0 {
				from := list.Pointer()
				spans = append(spans, span{from, from + uintptr(list.Cap())*list.Type().Elem().Size()})
			}
		}
	}
	if len(spans) < 200 {
		t.Fatalf("only %d lists", len(spans))
	}
	slices.SortFunc(spans, func(a, b span) int { return cmp.Compare(a.from, b.from) })
	for num := range spans[1:] {
		if spans[num].to > spans[num+1].from {
			t.Errorf("two lists share memory")
		}
	}
	runtime.KeepAlive(kept) // else the room of one answer might be given to the next
}

// spoil writes zeros over all of a list, its spare room too.
func spoil(list reflect.Value) {
	whole := list.Slice(0, list.Cap())
	for num := range whole.Len() {
		whole.Index(num).SetZero()
	}
}

// What is written into an answer is seen by nobody: neither by the engine, nor by its forks, whether made ahead of it or behind it.
func TestAnswersAreNewMemory(t *testing.T) {
	e, twin := mixed(t), mixed(t)
	fork := e.Fork()
	want := seen(twin)
	for num := range answers(e) {
		for _, x := range []*engine.Engine{e, fork} {
			lists := listsIn(answers(x)[num])
			if len(lists) < 3 {
				t.Errorf("answer %d has %d lists", num, len(lists))
			}
			for last := len(lists) - 1; last >= 0; last-- { // the inner ones first: the outer ones hold them
				spoil(lists[last])
			}
		}
		wantSame(t, "the engine", seen(e), want)
		wantSame(t, "its fork", seen(fork), want)
		wantSame(t, "a new fork", seen(e.Fork()), want)
	}
	for _, x := range []*engine.Engine{e, fork} {
		if got, want := x.Run([]int{1, 2}, most, most), twin.Fork().Run([]int{1, 2}, most, most); got != want {
			t.Errorf("Run = %v, want %v", got, want)
		}
		x.Reset()
		wantSame(t, "behind Reset", seen(x), seen(load(t, first(x.Texts()), second(x.Texts()))))
	}
}

func first(a, _ string) string { return a }

func second(_, b string) string { return b }

// What an engine answered stays as it is, whatever happens later.
func TestAnswersStay(t *testing.T) {
	e := mixed(t)
	kept := answers(e)
	was := fmt.Sprint(kept)
	e.Run(nil, 1, most)
	e.Run(nil, most, 1)
	e.Fork().Run(nil, most, most)
	e.Run(nil, most, most)
	e.Reset()
	e.Run([]int{2}, most, most)
	wantSame(t, "answers from earlier", fmt.Sprint(kept), was)
}

// The picks and a fact are neither changed nor kept.
func TestWhatIsHandedIn(t *testing.T) {
	picks := append(make([]int, 0, 8), 5, -1, 3, 9)[:3]
	f := api.Fact{Pred: "path", Args: append(make([]api.Const, 0, 4), name("a"), name("b"), name("c"))[:2]}
	wasPicks, wasArgs := slices.Clone(picks[:cap(picks)]), slices.Clone(f.Args[:cap(f.Args)])
	e, twin := load(t, paths, ""), load(t, paths, "")
	e.Run(picks, 2, most)
	e.Has(f)
	if !slices.Equal(picks[:cap(picks)], wasPicks) || !slices.Equal(f.Args[:cap(f.Args)], wasArgs) {
		t.Errorf("what was handed in is %v, %v", picks[:cap(picks)], f.Args[:cap(f.Args)])
	}
	clear(picks)
	e.Run(nil, 2, most)
	twin.Run([]int{5, -1}, 4, most)
	wantSame(t, "behind a change of the picks", seen(e), seen(twin))
}
