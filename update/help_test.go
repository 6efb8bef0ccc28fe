package update_test

import (
	"fmt"
	"slices"
	"strings"
	"testing"

	"edict/api"
	"edict/parse"
	"edict/print"
	"edict/update"
)

// ways is the program of the chapter's examples.
const ways = `edge(a, b). edge(b, c).
path(X, Y) :- edge(X, Y).
path(X, Z) :- path(X, Y), edge(Y, Z).
node(X) :- edge(X, _).
node(Y) :- edge(_, Y).
apart(X, Y) :- node(X), node(Y), not path(X, Y).
`

// model is what the program of the chapter's examples comes to.
const model = "apart(a, a). apart(b, a). apart(b, b). apart(c, a). apart(c, b). apart(c, c). edge(a, b). edge(b, c). node(a). node(b). node(c). path(a, b). path(a, c). path(b, c)."

func open(t *testing.T, src string, text string) *update.Keeper {
	t.Helper()
	k, fault := update.Open(src, text)
	if k == nil || fault != (api.Fault{}) {
		t.Fatalf("Open(%.200q, %.200q) = %v, %v", src, text, k, fault)
	}
	return k
}

// facts is the facts of a text.
func facts(text string) (all []api.Fact) {
	atoms, fault := parse.Facts(text)
	if fault.Code != api.OK {
		panic(text)
	}
	for _, a := range atoms {
		f := api.Fact{Pred: a.Pred}
		for _, x := range a.Args {
			f.Args = append(f.Args, api.Const{Kind: x.Kind, Int: x.Int, Text: x.Text})
		}
		all = append(all, f)
	}
	return all
}

func fact(text string) api.Fact { return facts(text + ".")[0] }

// textOf is facts in their order, in the form that facts reads.
func textOf(fs []api.Fact) string {
	words := make([]string, 0, len(fs))
	for _, f := range fs {
		words = append(words, print.Fact(f)+".")
	}
	return strings.Join(words, " ")
}

func wantFacts(t *testing.T, what string, got []api.Fact, want string) {
	t.Helper()
	if textOf(got) != want {
		t.Errorf("%s = %s, want %s", what, textOf(got), want)
	}
}

func number(n int64) api.Const { return api.Const{Kind: api.KInt, Int: n} }

// change makes a change that is not refused.
func change(t *testing.T, k *update.Keeper, drop string, add string, came string, went string) {
	t.Helper()
	c, w, e := k.Change(facts(drop), facts(add))
	if e != api.OK || textOf(c) != came || textOf(w) != went {
		t.Errorf("Change(%s / %s) = %s / %s, %d, want %s / %s", drop, add, textOf(c), textOf(w), e, came, went)
	}
}

// refused makes a change that is refused, and looks whether all is as it was.
func refused(t *testing.T, k *update.Keeper, drop []api.Fact, add []api.Fact, want api.Errno) {
	t.Helper()
	was := seen(k)
	came, went, e := k.Change(drop, add)
	if e != want || len(came)+len(went) != 0 {
		t.Errorf("Change(%.200s / %.200s) = %v, %v, %d, want %d", fmt.Sprint(drop), fmt.Sprint(add), came, went, e, want)
	}
	if seen(k) != was {
		t.Errorf("a change that was refused has changed %s into %s", was, seen(k))
	}
}

// seen is all that a keeper tells.
func seen(k *update.Keeper) string {
	return textOf(k.Given()) + " / " + textOf(k.Facts())
}

// without is the facts of a list that are not in another, in their order.
func without(fs []api.Fact, others []api.Fact) (rest []api.Fact) {
	for _, f := range fs {
		if !has(others, f) {
			rest = append(rest, f)
		}
	}
	return rest
}

func same(f api.Fact, g api.Fact) bool { return f.Pred == g.Pred && slices.Equal(f.Args, g.Args) }

func has(fs []api.Fact, f api.Fact) bool {
	return slices.ContainsFunc(fs, func(g api.Fact) bool { return same(f, g) })
}
