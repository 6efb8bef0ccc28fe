package why_test

import (
	"cmp"
	"fmt"
	"reflect"
	"runtime"
	"slices"
	"testing"

	"edict/api"
	"edict/engine"
	"edict/why"
)

// DOC.md's P2, and P9

// listsIn is all lists in a value, and in what they hold.
func listsIn(value any) []reflect.Value {
	var lists []reflect.Value
	var walk func(v reflect.Value)
	walk = func(v reflect.Value) {
		switch v.Kind() {
		case reflect.Slice:
			lists = append(lists, v)
			for num := range v.Len() {
				walk(v.Index(num))
			}
		case reflect.Struct:
			for num := range v.NumField() {
				walk(v.Field(num))
			}
		}
	}
	walk(reflect.ValueOf(value))
	return lists
}

// told is all that the calls answer with lists in it.
func told(e *engine.Engine) []any {
	var all []any
	for _, f := range e.Facts() {
		lines, _ := why.Prove(e, f)
		depths, _ := why.Depth(lines)
		all = append(all, lines, depths)
	}
	for rule, r := range e.Core().Rules {
		for _, subst := range substs(names("a", "c", "new"), len(r.Vars)) {
			obstacles, _ := why.Against(e, rule, subst)
			all = append(all, obstacles)
		}
	}
	return all
}

type span struct{ from, to uintptr }

func TestListsLieApart(t *testing.T) {
	e := rested(t, ways+"u(X, Z) :- t(X, Y), t(X, Y), e(_, Z), not s(X).", "")
	kept := slices.Concat(told(e), told(e), []any{e.Core(), e.Facts(), e.Log()})
	var spans []span
	for _, answer := range kept {
		for _, list := range listsIn(answer) {
			if list.Cap() > 0 {
				from := list.Pointer()
				spans = append(spans, span{from, from + uintptr(list.Cap())*list.Type().Elem().Size()})
			}
		}
	}
	if len(spans) < 500 {
		t.Fatalf("only %d lists", len(spans))
	}
	slices.SortFunc(spans, func(a, b span) int { return cmp.Compare(a.from, b.from) })
	for num := range spans[1:] {
		if spans[num].to > spans[num+1].from {
			t.Error("two lists share memory")
		}
	}
	runtime.KeepAlive(kept) // else the room of one answer might be given to the next
}

// spoilAll writes zeros over all lists of an answer, their spare room too.
func spoilAll(answer any) {
	lists := listsIn(answer)
	for last := len(lists) - 1; last >= 0; last-- { // the inner ones first: the outer ones hold them
		whole := lists[last].Slice(0, lists[last].Cap())
		for num := range whole.Len() {
			whole.Index(num).SetZero()
		}
	}
}

// What is written into an answer is seen by nobody.
func TestAnswersAreNewMemory(t *testing.T) {
	e := rested(t, ways, "")
	was, engineWas := fmt.Sprint(told(e)), seen(e)
	for _, answer := range told(e) {
		spoilAll(answer)
	}
	if got := fmt.Sprint(told(e)); got != was {
		t.Errorf("the calls answer %s, want %s", got, was)
	}
	if seen(e) != engineWas {
		t.Error("the engine is another")
	}
}

// What was answered stays as it is, whatever happens to the engine.
func TestAnswersStay(t *testing.T) {
	e := load(t, ways, "")
	e.Run(nil, 2, most)
	kept := told(e)
	was := fmt.Sprint(kept)
	e.Run(nil, most, most)
	told(e)
	e.Reset()
	if got := fmt.Sprint(kept); got != was {
		t.Errorf("answers from earlier are %s, were %s", got, was)
	}
}

// roomy is a list with room behind it that is not empty.
func roomy[T any](list []T, behind T) []T {
	return append(slices.Clone(list), behind, behind)[:len(list)]
}

// What is handed in is not changed, the room behind its lists neither, and not kept.
func TestWhatIsHandedIn(t *testing.T) {
	e := rested(t, ways, "")
	x := name("room")
	f := fact("t(a, c)")
	f.Args = roomy(f.Args, x)
	lines := prove(t, e, f)
	for num, l := range lines {
		l.Fact.Args, l.Subst, l.From = roomy(l.Fact.Args, x), roomy(l.Subst, x), roomy(l.From, 77)
		lines[num] = l
	}
	lines = roomy(lines, api.Line{Rule: 99})
	memory := roomy(e.Facts(), api.Fact{Pred: "room"})
	c := e.Core()
	c.Consts, c.Preds, c.Facts = roomy(c.Consts, x), roomy(c.Preds, api.Pred{Name: "room"}), roomy(c.Facts, api.Row{Pred: 88})
	subst := roomy(names("a"), x)
	whole := func() string {
		text := fmt.Sprint(f, f.Args[:4], lines[:cap(lines)], memory[:cap(memory)], subst[:3], c.Consts[:cap(c.Consts)], c.Preds[:cap(c.Preds)], c.Facts[:cap(c.Facts)], c.Rules)
		for _, list := range listsIn(lines) {
			text += fmt.Sprint(list.Slice(0, list.Cap()))
		}
		return text
	}
	was, engineWas := whole(), seen(e)
	proof := prove(t, e, f)
	wantCheck(t, c, memory, lines, -1)
	wantDepth(t, lines, 0, 0, 1, 2)
	text := why.Text(lines)
	obstacles, _ := why.Against(e, 2, subst)
	wantReach(t, e, 1, f, 2)
	if whole() != was {
		t.Errorf("what was handed in is %s, was %s", whole(), was)
	}
	// Written into behind the calls, it changes no answer.
	told := fmt.Sprint(proof, text, obstacles)
	for _, list := range []any{f.Args, lines, memory, subst, c.Consts, c.Preds, c.Facts, c.Rules} {
		spoilAll(list)
	}
	if got := fmt.Sprint(proof, text, obstacles); got != told || seen(e) != engineWas {
		t.Errorf("the answers are %s, were %s", got, told)
	}
}

// Nothing is kept from call to call: one call's engine is nothing to the next.
func TestNothingIsKept(t *testing.T) {
	one, two := rested(t, ways, ""), rested(t, "t(X, Y) :- e(Y, X).", "e(c, a). n(a).")
	for range 3 {
		wantText(t, prove(t, one, fact("t(a, c)")), "0: e(a, b) given\n1: e(b, c) given\n2: t(b, c) by 0 {b, c} from 1\n3: t(a, c) by 1 {a, b, c} from 0, 2\n")
		wantText(t, prove(t, two, fact("t(a, c)")), "0: e(c, a) given\n1: t(a, c) by 0 {c, a} from 0\n")
		wantReach(t, one, 0, fact("t(a, c)"), 0)
		wantReach(t, two, 0, fact("t(a, c)"), 1)
		wantAgainst(t, one, 0, names("c", "a"), "1 0 e(c, a)")
		wantAgainst(t, two, 0, names("c", "a"))
		wantCheck(t, one.Core(), nil, []api.Line{given("e(a, b)")}, -1)
		wantCheck(t, two.Core(), nil, []api.Line{given("e(a, b)")}, 0)
	}
}

// Several calls over one engine, and over its forks, may be made at the same time: none of them writes anything.
func TestAtTheSameTime(t *testing.T) {
	e := rested(t, ways, "")
	want := fmt.Sprint(told(e))
	answers := make(chan string)
	for range 8 {
		go func() { answers <- fmt.Sprint(told(e)) }()
	}
	for range 8 {
		if got := <-answers; got != want {
			t.Errorf("answers %s, want %s", got, want)
		}
	}
}
