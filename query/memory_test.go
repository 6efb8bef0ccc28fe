package query_test

import (
	"cmp"
	"fmt"
	"reflect"
	"runtime"
	"slices"
	"testing"

	"edict/api"
	"edict/engine"
	"edict/query"
)

// DOC.md's P2, and P15.6's last words

// listsIn is all lists in a value, and in what they hold.
func listsIn(value any) []reflect.Value {
	var lists []reflect.Value
	var walk func(v reflect.Value)
	walk = func(v reflect.Value) {
		switch v.Kind() {
		case reflect.Slice:
			lists = append(lists, v)
			for num := range v.Len() {
				walk(v.Index(num))
			}
		case reflect.Struct:
			for num := range v.NumField() {
				walk(v.Field(num))
			}
		}
	}
	walk(reflect.ValueOf(value))
	return lists
}

// told is all that the calls answer with lists in it.
func told(e *engine.Engine) []any {
	var all []any
	for _, text := range []string{"path(X, Y), node(Z).", "edge(_, X), X > a, not new(X).", "lone(d).", "node(A), node(B), node(C)."} {
		names, answers, _, _ := query.Ask(e, text, 40)
		all = append(all, names, answers)
		query.Each(e, text, func(a api.Answer) bool { all = append(all, a); return true })
	}
	_, faults := query.Any(e, "path(X, Y).", "p(", "node(X).")
	_, others := query.Any(nil, "path(X, Y).", "p(")
	return append(all, faults, others)
}

type span struct{ from, to uintptr }

func TestListsLieApart(t *testing.T) {
	e := rested(t, paths, nodes)
	kept := slices.Concat(told(e), told(e), []any{e.Core(), e.Rows()})
	var spans []span
	for _, answer := range kept {
		for _, list := range listsIn(answer) {
			if list.Cap() > 0 {
				from := list.Pointer()
				spans = append(spans, span{from, from + uintptr(list.Cap())*list.Type().Elem().Size()})
			}
		}
	}
	if len(spans) < 250 {
		t.Fatalf("only %d lists", len(spans))
	}
	slices.SortFunc(spans, func(a, b span) int { return cmp.Compare(a.from, b.from) })
	for num := range spans[1:] {
		if spans[num].to > spans[num+1].from {
			t.Error("two lists share memory")
		}
	}
	runtime.KeepAlive(kept) // else the room of one answer might be given to the next
}

// What is written into an answer is seen by nobody.
func TestAnswersAreNewMemory(t *testing.T) {
	e := rested(t, paths, nodes)
	was, engineWas := fmt.Sprint(told(e)), seen(e)
	for _, answer := range told(e) {
		lists := listsIn(answer)
		for last := len(lists) - 1; last >= 0; last-- { // the inner ones first: the outer ones hold them
			whole := lists[last].Slice(0, lists[last].Cap())
			for num := range whole.Len() {
				whole.Index(num).SetZero()
			}
		}
	}
	if got := fmt.Sprint(told(e)); got != was {
		t.Errorf("the calls answer %s, want %s", got, was)
	}
	if seen(e) != engineWas {
		t.Error("the engine is another")
	}
}

// What was answered stays as it is, whatever happens to the engine.
func TestAnswersStay(t *testing.T) {
	e := load(t, paths, nodes)
	e.Run(nil, 2, most)
	kept := told(e)
	was := fmt.Sprint(kept)
	e.Run(nil, most, most)
	told(e)
	e.Reset()
	if got := fmt.Sprint(kept); got != was {
		t.Errorf("answers from earlier are %s, were %s", got, was)
	}
}
