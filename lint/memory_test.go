package lint_test

import (
	"cmp"
	"fmt"
	"math/rand"
	"reflect"
	"runtime"
	"slices"
	"testing"

	"edict/api"
	"edict/lint"
)

// P8, and DOC.md's P2

// listsIn is all lists in a value, and in what they hold.
func listsIn(value any) []reflect.Value {
	var lists []reflect.Value
	var walk func(v reflect.Value)
	walk = func(v reflect.Value) {
		switch v.Kind() {
		case reflect.Slice:
			lists = append(lists, v)
			for num := range v.Len() {
				walk(v.Index(num))
			}
		case reflect.Struct:
			for num := range v.NumField() {
				walk(v.Field(num))
			}
		}
	}
	walk(reflect.ValueOf(value))
	return lists
}

// handed is programs to look at: whole ones, and such as are not well formed.
func handed(t *testing.T) []api.Program {
	all := []api.Program{{}, program(t, five), program(t, "p(a) :- 1 < 2. p(b) :- p(a). p(b) :- p(a), X = X, p(b), 1 = 1, q(X).")}
	w := wild{Rand: rand.New(rand.NewSource(8))}
	for range 20 {
		all = append(all, w.program())
	}
	for _, c := range wrong() {
		all = append(all, api.Program{Clauses: append(program(t, five).Clauses, c)})
	}
	return all
}

// told is all that the calls answer of a program.
func told(p api.Program) []any {
	var covers []bool
	for _, a := range p.Clauses {
		for _, b := range p.Clauses {
			covers = append(covers, lint.Covers(a, b))
		}
	}
	fs := lint.Look(p)
	return []any{fs, lint.Text("p(X) :- q.", fs), covers, lint.Trim(p), lint.Slice(p, "p", "s", "q"), lint.Slice(p, "P", "", "p", "p")}
}

type span struct{ from, to uintptr }

func TestListsLieApart(t *testing.T) {
	var kept []any
	for _, p := range handed(t) {
		kept = append(kept, p)
		kept = append(kept, told(p)...)
		kept = append(kept, told(p)...)
	}
	var spans []span
	for _, answer := range kept {
		for _, list := range listsIn(answer) {
			if list.Cap() > 0 {
				from := list.Pointer()
				spans = append(spans, span{from, from + uintptr(list.Cap())*list.Type().Elem().Size()})
			}
		}
	}
	if len(spans) < 1000 {
		t.Fatalf("only %d lists", len(spans))
	}
	slices.SortFunc(spans, func(a, b span) int { return cmp.Compare(a.from, b.from) })
	shared := 0
	for num := range spans[1:] {
		if spans[num].to > spans[num+1].from {
			shared++
		}
	}
	if shared > 0 {
		t.Errorf("%d lists share memory with another", shared)
	}
	runtime.KeepAlive(kept) // else the room of one answer might be given to the next
}

// spoilAll writes zeros over all lists of an answer, their spare room too.
func spoilAll(answer any) {
	lists := listsIn(answer)
	for last := len(lists) - 1; last >= 0; last-- { // the inner ones first: the outer ones hold them
		whole := lists[last].Slice(0, lists[last].Cap())
		for num := range whole.Len() {
			whole.Index(num).SetZero()
		}
	}
}

// What is written into an answer is seen by nobody.
func TestAnswersAreNewMemory(t *testing.T) {
	for _, p := range handed(t) {
		was, told0 := fmt.Sprint(p), fmt.Sprint(told(p))
		for _, answer := range told(p) {
			spoilAll(answer)
		}
		if got := fmt.Sprint(p); got != was {
			t.Fatalf("what was handed in is %s, was %s", got, was)
		}
		if got := fmt.Sprint(told(p)); got != told0 {
			t.Fatalf("the calls answer %s, want %s", got, told0)
		}
	}
}

// roomy is a program whose lists all have room behind them that is filled.
func roomy(p api.Program) api.Program {
	filler := api.Clause{Head: api.Atom{Pred: "filler"}}
	cs := append(slices.Clone(p.Clauses), filler, filler)
	for num, c := range cs {
		cs[num].Head.Args = roomyTerms(c.Head.Args)
		body := append(slices.Clone(c.Body), api.Literal{Off: 77}, api.Literal{Off: 78})
		for at, l := range body {
			body[at].Atom.Args = roomyTerms(l.Atom.Args)
		}
		cs[num].Body = body[:len(c.Body)]
	}
	return api.Program{Clauses: cs[:len(p.Clauses)]}
}

func roomyTerms(ts []api.Term) []api.Term {
	return append(slices.Clone(ts), api.Term{Off: 75}, api.Term{Off: 76})[:len(ts)]
}

// full is all that lies in a value's lists, the room behind them too.
func full(p api.Program) string {
	text := ""
	for _, list := range listsIn(p) {
		text += fmt.Sprintln(list.Slice(0, list.Cap()))
	}
	return text
}

// What is handed in is not changed, the room behind a list neither, and it may be spoilt afterwards.
func TestHandedInStays(t *testing.T) {
	for _, p := range handed(t) {
		p = roomy(p)
		was := full(p)
		kept := told(p)
		wasTold := fmt.Sprint(kept)
		if full(p) != was {
			t.Fatalf("%v is changed", p)
		}
		spoilAll(p)
		if got := fmt.Sprint(kept); got != wasTold {
			t.Fatalf("answers from earlier are %s, were %s", got, wasTold)
		}
	}
	goals := append(make([]string, 0, 8), "t", "u", "w")
	lint.Slice(program(t, "t :- e, u. u :- f. w :- t."), goals...)
	if got := fmt.Sprint(goals[:8]); got != "[t u w     ]" {
		t.Errorf("the goals are %s", got)
	}
	fs := []api.Finding{{Kind: api.FUnused, Name: "p"}, {Kind: 9}, {Kind: api.FIdle}}
	was := slices.Clone(fs)
	lint.Text("p", fs)
	if !slices.Equal(fs, was) {
		t.Errorf("the findings are %v", fs)
	}
}

// Nothing is kept from call to call: what is asked in between, or at the same time, changes no answer.
func TestCallsHaveNothingInCommon(t *testing.T) {
	all := handed(t)
	var want []string
	for _, p := range all {
		want = append(want, fmt.Sprint(told(p)))
	}
	done := make(chan string)
	for num := range all {
		go func() {
			for off := range all {
				at := (num + off) % len(all)
				if got := fmt.Sprint(told(all[at])); got != want[at] {
					done <- fmt.Sprintf("the calls answer %s, want %s", got, want[at])
					return
				}
			}
			done <- ""
		}()
	}
	for range all {
		if wrong := <-done; wrong != "" {
			t.Error(wrong)
		}
	}
}
