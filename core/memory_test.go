package core_test

import (
	"fmt"
	"math"
	"reflect"
	"testing"

	"edict/api"
	"edict/core"
)

// Memory (P8): what is handed in stays as it is and is not kept; what is answered is nobody else's.

// roomy is a deep copy of a thing, each list of it with spare room that is filled.
func roomy[T any](x T) T { return roomyValue(reflect.ValueOf(x)).Interface().(T) }

func roomyValue(from reflect.Value) reflect.Value {
	to := reflect.New(from.Type()).Elem()
	to.Set(from)
	switch from.Kind() {
	case reflect.Slice:
		to.Set(reflect.MakeSlice(from.Type(), from.Len()+3, from.Len()+3))
		for i := range to.Len() {
			if i < from.Len() {
				to.Index(i).Set(roomyValue(from.Index(i)))
			} else {
				fill(to.Index(i))
			}
		}
		to.Set(to.Slice(0, from.Len()))
	case reflect.Struct:
		for i := range from.NumField() {
			to.Field(i).Set(roomyValue(from.Field(i)))
		}
	}
	return to
}

// fill makes something of all fields that are no lists.
func fill(x reflect.Value) {
	switch x.Kind() {
	case reflect.Int, reflect.Int64:
		x.SetInt(77)
	case reflect.String:
		x.SetString("spare")
	case reflect.Struct:
		for i := range x.NumField() {
			fill(x.Field(i))
		}
	}
}

// picture shows a thing with the spare room of its lists.
func picture(x any) string { return fmt.Sprintf("%+v", opened(reflect.ValueOf(x)).Interface()) }

func opened(from reflect.Value) reflect.Value {
	to := reflect.New(from.Type()).Elem()
	to.Set(from)
	switch from.Kind() {
	case reflect.Slice:
		all := from.Slice(0, from.Cap())
		to.Set(reflect.MakeSlice(from.Type(), all.Len(), all.Len()))
		for i := range all.Len() {
			to.Index(i).Set(opened(all.Index(i)))
		}
	case reflect.Struct:
		for i := range from.NumField() {
			to.Field(i).Set(opened(from.Field(i)))
		}
	}
	return to
}

// span is from where up to where a list lies, its spare room too.
type span struct{ from, to uintptr }

func spans(x reflect.Value, out []span) []span {
	switch x.Kind() {
	case reflect.Slice:
		if x.Cap() > 0 {
			size := x.Type().Elem().Size() * uintptr(x.Cap())
			out = append(out, span{x.Pointer(), x.Pointer() + size})
		}
		for i := range x.Len() {
			out = spans(x.Index(i), out)
		}
	case reflect.Struct:
		for i := range x.NumField() {
			out = spans(x.Field(i), out)
		}
	}
	return out
}

// wantApart: no list of one of these things shares a place with any other list.
func wantApart(t *testing.T, what string, things ...any) {
	t.Helper()
	var all []span
	for _, x := range things {
		all = spans(reflect.ValueOf(x), all)
	}
	for i, a := range all {
		for _, b := range all[:i] {
			if a.from < b.to && b.from < a.to {
				t.Fatalf("%s: two lists share memory", what)
			}
		}
	}
}

// spoil writes over all lists of a thing, their spare room too.
func spoil(x reflect.Value) {
	switch x.Kind() {
	case reflect.Slice:
		all := x.Slice(0, x.Cap())
		for i := range all.Len() {
			spoil(all.Index(i))
			all.Index(i).SetZero()
		}
	case reflect.Struct:
		for i := range x.NumField() {
			spoil(x.Field(i))
		}
	}
}

const (
	longProgram = "q(a, b). p(X, a) :- q(X, _), not r(b, X), X != 3, s(X, Y, _), t, Y < 7, not t, 1 = 1. t. q(a, b). t :- t. s(1, 2, 3). t :- not t. p(X, X) :- q(X, Y), q(Y, X), q(_, _)."
	longFacts   = "q(c, 3). q(a, b). u(1, \"x\", 2). t. q(d, d)."
)

func TestBuildLeavesWhatItIsGiven(t *testing.T) {
	for _, src := range []string{longProgram, longProgram + " p(X, Y).", longProgram + " t(1).", longProgram + " t :- x(" + many(8, "V") + "), y(" + many(8, "W") + "), z(Z)."} {
		p, facts := parsed(t, src, longFacts)
		p, facts = roomy(p), roomy(facts)
		before := picture(p) + picture(facts)
		k, _ := core.Build(p, facts)
		for _, cl := range p.Clauses {
			core.Vars(cl.Body)
			core.Unbound(cl)
		}
		if picture(p)+picture(facts) != before {
			t.Errorf("%s: what was given is changed", src)
		}
		again, _ := core.Build(p, facts)
		wantApart(t, src, p, facts, k, again)
		was := picture(again)
		spoil(reflect.ValueOf(k))
		spoil(reflect.ValueOf(p))
		spoil(reflect.ValueOf(facts))
		if picture(again) != was {
			t.Errorf("%s: what was answered is changed", src)
		}
	}
}

func TestQueryLeavesWhatItIsGiven(t *testing.T) {
	for _, src := range []string{"q(X, d), not s(X, 1, X), v(X, Y, _), Y < 9, not v(1, 2, 3), 1 = 1.", "q(X, c).", "t.", "1 < 2.", "q(X).", "q(X, Y), Y < Z."} {
		k, ls := roomy(built(t, longProgram, longFacts)), roomy(parsedQuery(t, src))
		before := picture(k) + picture(ls)
		wider, r, f := core.Query(k, ls)
		if picture(k)+picture(ls) != before {
			t.Errorf("%s: what was given is changed", src)
		}
		wider2, r2, f2 := core.Query(k, ls)
		if f != f2 || !same(wider, wider2) || !same(r, r2) {
			t.Errorf("%s: asked twice, answered differently", src)
		}
		wantApart(t, src, k, ls, wider, r, wider2, r2)
		was := picture(wider2) + picture(r2)
		for _, x := range []any{k, ls, wider, r} {
			spoil(reflect.ValueOf(x))
		}
		if picture(wider2)+picture(r2) != was {
			t.Errorf("%s: what was answered is changed", src)
		}
	}
}

func TestBackLeavesWhatItIsGiven(t *testing.T) {
	k := roomy(built(t, longProgram, longFacts))
	before := picture(k)
	things := []any{k}
	for i := -1; i <= len(k.Rules); i++ {
		one, _ := core.Back(k, i)
		two, _ := core.Back(k, i)
		things = append(things, one, two)
	}
	rows := append(roomy(k.Facts), row(99), row(0, 1))
	rowsBefore := picture(rows)
	things = append(things, rows)
	for _, r := range rows {
		one, _ := core.Fact(k, r)
		two, _ := core.Fact(k, r)
		things = append(things, one, two)
	}
	if picture(k) != before || picture(rows) != rowsBefore {
		t.Error("what was given is changed")
	}
	wantApart(t, "Back and Fact", things...)
}

func TestVarsAreNewMemory(t *testing.T) {
	ls := parsedQuery(t, "q(X, Y, _), r(Z, X).")
	one, two := core.Vars(ls), core.Vars(ls)
	wantApart(t, "Vars", ls, one, two)
	if got := fmt.Sprint(two); got != "[X Y _ Z]" {
		t.Errorf("Vars = %s", got)
	}
}

// TestNilAndEmptyAreTheSame: lists without elements are made in both ways.
func TestNilAndEmptyAreTheSame(t *testing.T) {
	without := programOf(clause(atom(0, "p")), clause(atom(3, "p"), pos(atom(8, "p"))))
	with := programOf(api.Clause{Head: api.Atom{Pred: "p", Args: []api.Term{}}, Body: []api.Literal{}}, clause(atom(3, "p"), pos(api.Atom{Pred: "p", Args: []api.Term{}, Off: 8})))
	one, f := core.Build(without, nil)
	two, g := core.Build(with, []api.Atom{})
	if f != g || f != (api.Fault{}) || !same(one, two) {
		t.Errorf("Build = %+v, %v and %+v, %v", one, f, two, g)
	}
	full := api.Core{Preds: []api.Pred{{Name: "p"}}, Consts: []api.Const{}, Rules: []api.Rule{{Pos: []api.Pattern{}, Tests: []api.Test{}, Neg: []api.Pattern{}, Vars: []string{}, Head: api.Pattern{Args: []api.Slot{}}}}, Facts: []api.Row{{Args: []int{}}}}
	wantBack(t, full, 0, clause(atom(0, "p")), api.OK)
	wantFact(t, full, api.Row{}, api.Fact{Pred: "p"}, api.OK)
	wantFact(t, full, full.Facts[0], api.Fact{Pred: "p"}, api.OK)
	wantQuery(t, full, parsedQuery(t, "p."), full, api.Rule{Head: pat(-1), Pos: []api.Pattern{pat(0)}, Clause: -1})
	wantNoQuery(t, full, []api.Literal{}, api.Fault{Code: api.ErrArg})
}

// TestOddArguments: whatever the numbers are, every call answers.
func TestOddArguments(t *testing.T) {
	odd := []int{math.MinInt, -1, 0, 1, 2, 5, math.MaxInt}
	for _, a := range odd {
		for _, b := range odd {
			slot, const1 := api.Slot{Var: b > 0, N: a}, api.Const{Kind: b, Int: int64(a), Text: "x"}
			p := pat(a, slot, slot)
			k := api.Core{Preds: []api.Pred{{Name: "p", Arity: b}, {Name: "q", Arity: a}}, Consts: []api.Const{const1}}
			k.Rules = []api.Rule{{Head: p, Pos: []api.Pattern{p}, Neg: []api.Pattern{p}, Tests: []api.Test{{Op: a, Left: slot, Right: slot}}, Vars: []string{"X"}, Clause: a}}
			k.Facts = []api.Row{row(a, b)}
			term := api.Term{Kind: a, Int: int64(b), Text: "X", Off: b}
			l := api.Literal{Kind: b, Atom: atom(a, "p", term), Op: a, Left: term, Right: term, Off: b}
			core.Build(programOf(clause(l.Atom, l)), []api.Atom{l.Atom})
			core.Query(k, []api.Literal{l})
			core.Query(k, parsedQuery(t, "p, q(X)."))
			core.Unbound(clause(l.Atom, l))
			core.Vars([]api.Literal{l})
			core.Back(k, a)
			core.Back(k, 0)
			core.Fact(k, row(a, b))
			core.Fact(k, row(0, a, b))
		}
	}
}
