package dump_test

import (
	"fmt"
	"math"
	"slices"
	"testing"

	"edict/api"
	"edict/dump"
	"edict/engine"
	"edict/print"
	"edict/query"
	"edict/why"
)

const most = math.MaxUint64

const magic = "\x65\x64\x69\x63\x74\x01\x0D\x0A"

// The texts of the chapter's examples 3 to 5.
const rules, given = "q(X):-p(X).", "p(a).p(b)."

// ways is the program of DOC.md's examples.
const ways = `edge(a, b). edge(b, c).
path(X, Y) :- edge(X, Y).
path(X, Z) :- path(X, Y), edge(Y, Z).
node(X) :- edge(X, _).
node(Y) :- edge(_, Y).
apart(X, Y) :- node(X), node(Y), not path(X, Y).
`

// low is a number in so many bytes, the lowest one first.
func low(n uint64, size int) string {
	var out []byte
	for i := range size {
		out = append(out, byte(n>>(8*i)))
	}
	return string(out)
}

// plainSum is the sum bit by bit.
func plainSum(text string) uint32 {
	n := uint32(0xFFFFFFFF)
	for _, b := range []byte(text) {
		n ^= uint32(b)
		for range 8 {
			if n&1 == 1 {
				n = n>>1 ^ 0xEDB88320
			} else {
				n >>= 1
			}
		}
	}
	return n ^ 0xFFFFFFFF
}

func summed(text string) string { return text + low(uint64(plainSum(text)), 4) }

// numbered is bytes with these four numbers, whether they fit what is behind them or not.
func numbered(src int, facts int, count uint64, size uint64, behind string) string {
	return summed(magic + low(uint64(src), 4) + low(uint64(facts), 4) + low(count, 8) + low(size, 8) + behind)
}

// form is the bytes of two texts and steps.
func form(src string, facts string, count int, steps string) string {
	return numbered(len(src), len(facts), uint64(count), uint64(len(steps)), src+facts+steps)
}

func load(t *testing.T, src string, facts string) *engine.Engine {
	t.Helper()
	e, _, fault := engine.Load(src, facts)
	if e == nil {
		t.Fatalf("Load(%.200q, %.200q) = %v", src, facts, fault)
	}
	return e
}

// save is the bytes of an engine.
func save(t *testing.T, e *engine.Engine) string {
	t.Helper()
	data, code := dump.Save(e)
	if code != api.OK {
		t.Fatalf("Save = %q, %d", data, code)
	}
	return data
}

// open is the engine of bytes that are not refused.
func open(t *testing.T, data string) *engine.Engine {
	t.Helper()
	e, code := dump.Open(data)
	if e == nil || code != api.OK {
		t.Fatalf("Open(%.300q) = %v, %d", data, e, code)
	}
	return e
}

// refused is bytes that Open refuses so, and Head so or not at all.
func refused(t *testing.T, data string, want api.Errno, head api.Errno) {
	t.Helper()
	if e, code := dump.Open(data); e != nil || code != want {
		t.Errorf("Open(%.300q) = %v, %d, want %d", data, e, code, want)
	}
	src, facts, count, code := dump.Head(data)
	if code != head || head != api.OK && (src != "" || facts != "" || count != 0) {
		t.Errorf("Head(%.300q) = %.100q, %.100q, %d, %d, want %d", data, src, facts, count, code, head)
	}
}

func wantHead(t *testing.T, data string, src string, facts string, count int) {
	t.Helper()
	gotSrc, gotFacts, got, code := dump.Head(data)
	if gotSrc != src || gotFacts != facts || got != count || code != api.OK {
		t.Errorf("Head(%.300q) = %.100q, %.100q, %d, %d, want %.100q, %.100q, %d", data, gotSrc, gotFacts, got, code, src, facts, count)
	}
}

// seen is what the calls of layers 14 to 16 tell of an engine.
func seen(e *engine.Engine) string {
	src, facts := e.Texts()
	told := []any{e.Info(), e.Core(), e.Plan(), src, facts, e.Rows(), e.Facts(), e.Conflict(), e.Eligible(), e.Model(), e.Log()}
	for _, f := range some(e.Facts()) {
		lines, code := why.Prove(e, f)
		told = append(told, e.Has(f), lines, code)
	}
	for _, p := range e.Core().Preds {
		text := p.Name
		if p.Arity > 0 {
			text += "(X" + fmt.Sprint(p.Arity)
			for place := range p.Arity - 1 {
				text += fmt.Sprint(", X", place)
			}
			text += ")"
		}
		names, answers, more, fault := query.Ask(e, text+".", 99)
		told = append(told, names, answers, more, fault)
	}
	for _, act := range some(e.Conflict()) {
		obstacles, code := why.Against(e, act.Rule, act.Subst)
		told = append(told, obstacles, code)
	}
	for num := range e.Core().Rules {
		for _, f := range some(e.Facts()) {
			reach, code := why.Reach(e, num, f)
			told = append(told, reach, code)
		}
	}
	return fmt.Sprintf("%v", told)
}

// some is the last ones of a list: those hang on most of the others.
func some[T any](list []T) []T { return list[max(0, len(list)-6):] }

// wantAlike is two engines of which all is the same, then and behind the same further runs.
func wantAlike(t *testing.T, e *engine.Engine, x *engine.Engine, runs ...run) {
	t.Helper()
	for num, r := range append([]run{{}}, runs...) {
		if num > 0 {
			got, want := x.Run(r.picks, r.steps, r.mem), e.Run(r.picks, r.steps, r.mem)
			if got != want {
				t.Fatalf("run %d: %v, want %v", num, got, want)
			}
		}
		if got, want := seen(x), seen(e); got != want {
			t.Fatalf("behind %d runs the opened one tells %s, want %s", num, got, want)
		}
	}
}

type run struct {
	picks []int
	steps uint64
	mem   uint64
}

// words is facts as texts.
func words(fs []api.Fact) (texts []string) {
	for _, f := range fs {
		texts = append(texts, print.Fact(f))
	}
	return texts
}

func wantWords(t *testing.T, what string, fs []api.Fact, want ...string) {
	t.Helper()
	if got := words(fs); !slices.Equal(got, want) {
		t.Errorf("%s = %q, want %q", what, got, want)
	}
}
