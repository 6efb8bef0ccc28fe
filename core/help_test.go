package core_test

import (
	"fmt"
	"reflect"
	"strconv"
	"strings"
	"testing"

	"edict/api"
	"edict/core"
	"edict/parse"
)

// Terms, literals and rules by hand.

func integer(n int64, off int) api.Term { return api.Term{Kind: api.KInt, Int: n, Off: off} }

func name(s string, off int) api.Term { return api.Term{Kind: api.KName, Text: s, Off: off} }

func variable(s string, off int) api.Term { return api.Term{Kind: api.KVar, Text: s, Off: off} }

func atom(off int, pred string, args ...api.Term) api.Atom {
	return api.Atom{Pred: pred, Args: args, Off: off}
}

func pos(a api.Atom) api.Literal { return api.Literal{Kind: api.LPos, Atom: a, Off: a.Off} }

func neg(a api.Atom) api.Literal { return api.Literal{Kind: api.LNeg, Atom: a, Off: a.Off - 4} }

func test(op int, left, right api.Term) api.Literal {
	return api.Literal{Kind: api.LTest, Op: op, Left: left, Right: right, Off: left.Off}
}

func clause(head api.Atom, body ...api.Literal) api.Clause {
	return api.Clause{Head: head, Body: body}
}

func programOf(cs ...api.Clause) api.Program { return api.Program{Clauses: cs} }

func v(n int) api.Slot { return api.Slot{Var: true, N: n} }

func c(n int) api.Slot { return api.Slot{N: n} }

func pat(pred int, args ...api.Slot) api.Pattern { return api.Pattern{Pred: pred, Args: args} }

func row(pred int, args ...int) api.Row { return api.Row{Pred: pred, Args: args} }

func preds(texts ...string) (ps []api.Pred) {
	for _, s := range texts {
		word, arity, _ := strings.Cut(s, "/")
		n, _ := strconv.Atoi(arity)
		ps = append(ps, api.Pred{Name: word, Arity: n})
	}
	return ps
}

// consts takes ints for integers and strings for names.
func consts(of ...any) (cs []api.Const) {
	for _, x := range of {
		switch x := x.(type) {
		case int:
			cs = append(cs, api.Const{Kind: api.KInt, Int: int64(x)})
		case string:
			cs = append(cs, api.Const{Kind: api.KName, Text: x})
		case api.Const:
			cs = append(cs, x)
		}
	}
	return cs
}

// many is so many words, numbered from 0 on, with commas between.
func many(n int, word string) string {
	var parts []string
	for i := range n {
		parts = append(parts, word+strconv.Itoa(i))
	}
	return strings.Join(parts, ", ")
}

// same holds two values against each other; lists without elements and nil are the same.
func same(a, b any) bool { return alike(reflect.ValueOf(a), reflect.ValueOf(b)) }

func alike(a, b reflect.Value) bool {
	switch a.Kind() {
	case reflect.Slice:
		if a.Len() != b.Len() {
			return false
		}
		for i := range a.Len() {
			if !alike(a.Index(i), b.Index(i)) {
				return false
			}
		}
		return true
	case reflect.Struct:
		for i := range a.NumField() {
			if !alike(a.Field(i), b.Field(i)) {
				return false
			}
		}
		return true
	}
	return a.Interface() == b.Interface()
}

func parsed(t *testing.T, src, facts string) (api.Program, []api.Atom) {
	t.Helper()
	p, f := parse.Program(src)
	as, g := parse.Facts(facts)
	if f.Code != api.OK || g.Code != api.OK {
		t.Fatalf("%q, %q are not parsed: %v, %v", src, facts, f, g)
	}
	return p, as
}

func parsedQuery(t *testing.T, src string) []api.Literal {
	t.Helper()
	ls, f := parse.Query(src)
	if f.Code != api.OK {
		t.Fatalf("%q is not parsed: %v", src, f)
	}
	return ls
}

func short(x any) string {
	s := fmt.Sprintf("%+v", x)
	if len(s) > 600 {
		return s[:600] + ".."
	}
	return s
}

func wantBuild(t *testing.T, p api.Program, facts []api.Atom, want api.Core) {
	t.Helper()
	if got, f := core.Build(p, facts); f != (api.Fault{}) || !same(got, want) {
		t.Errorf("Build(%s, %s)\n= %s, %v\nwant %s", short(p), short(facts), short(got), f, short(want))
	}
}

// wantRefused: a core beside a fault is none.
func wantRefused(t *testing.T, p api.Program, facts []api.Atom, want api.Fault) {
	t.Helper()
	if got, f := core.Build(p, facts); f != want || !same(got, api.Core{}) {
		t.Errorf("Build(%s, %s)\n= %s, %v\nwant %v", short(p), short(facts), short(got), f, want)
	}
}

// built is the core of two texts that may be.
func built(t *testing.T, src, facts string) api.Core {
	t.Helper()
	p, as := parsed(t, src, facts)
	k, f := core.Build(p, as)
	if f != (api.Fault{}) {
		t.Fatalf("Build of %q, %q: %v", src, facts, f)
	}
	return k
}

// refused: the text of the fault is the one that has @ in it, just ahead of the place, in either; the @ is no part of it.
func refused(t *testing.T, code api.Errno, src, facts string) {
	t.Helper()
	want := api.Fault{Code: code, Off: strings.Index(src, "@")}
	if want.Off < 0 {
		want.Text, want.Off = 1, strings.Index(facts, "@")
	}
	p, as := parsed(t, strings.Replace(src, "@", "", 1), strings.Replace(facts, "@", "", 1))
	wantRefused(t, p, as, want)
}

func accepted(t *testing.T, src, facts string) {
	t.Helper()
	p, as := parsed(t, src, facts)
	if k, f := core.Build(p, as); f != (api.Fault{}) || same(k, api.Core{}) {
		t.Errorf("Build of %q, %q = %s, %v", src, facts, short(k), f)
	}
}

func wantQuery(t *testing.T, k api.Core, ls []api.Literal, want api.Core, wantRule api.Rule) {
	t.Helper()
	if got, r, f := core.Query(k, ls); f != (api.Fault{}) || !same(got, want) || !same(r, wantRule) {
		t.Errorf("Query(%s, %s)\n= %s,\n%s, %v\nwant %s,\n%s", short(k), short(ls), short(got), short(r), f, short(want), short(wantRule))
	}
}

func wantNoQuery(t *testing.T, k api.Core, ls []api.Literal, want api.Fault) {
	t.Helper()
	if got, r, f := core.Query(k, ls); f != want || !same(got, api.Core{}) || !same(r, api.Rule{}) {
		t.Errorf("Query(%s, %s)\n= %s,\n%s, %v\nwant %v", short(k), short(ls), short(got), short(r), f, want)
	}
}

// queryRefused takes the query's text with an @ ahead of the fault's place.
func queryRefused(t *testing.T, k api.Core, code api.Errno, src string) {
	t.Helper()
	wantNoQuery(t, k, parsedQuery(t, strings.Replace(src, "@", "", 1)), api.Fault{Code: code, Off: strings.Index(src, "@")})
}

func wantBack(t *testing.T, k api.Core, rule int, want api.Clause, wantE api.Errno) {
	t.Helper()
	if got, e := core.Back(k, rule); e != wantE || !same(got, want) {
		t.Errorf("Back(%s, %d)\n= %s, %d\nwant %s, %d", short(k), rule, short(got), e, short(want), wantE)
	}
}

func wantFact(t *testing.T, k api.Core, r api.Row, want api.Fact, wantE api.Errno) {
	t.Helper()
	if got, e := core.Fact(k, r); e != wantE || !same(got, want) {
		t.Errorf("Fact(%s, %v)\n= %s, %d\nwant %s, %d", short(k), r, short(got), e, short(want), wantE)
	}
}
