package lint_test

import (
	"maps"
	"math"
	"math/rand"
	"slices"
	"strings"
	"testing"

	"edict/api"
	"edict/engine"
	"edict/lint"
	"edict/parse"
	"edict/print"
)

// All calls held against the plain ones, and what programs come to, over wild programs.

// P1, P2, P3, P5
func TestModel(t *testing.T) {
	w := wild{Rand: rand.New(rand.NewSource(18))}
	kinds, seen := map[int]int{}, map[string]int{}
	for range 2500 {
		p := w.program()
		want := plainLook(p)
		if got := lint.Look(p); !slices.Equal(got, want) {
			t.Fatalf("Look(%s) = %v, want %v", print.Program(p), got, want)
		}
		for _, f := range want {
			kinds[f.Kind]++
		}
		trimmed := plainTrim(p)
		if got := lint.Trim(p); !sameProgram(got, trimmed) {
			t.Fatalf("Trim(%s) = %s, want %s", print.Program(p), print.Program(got), print.Program(trimmed))
		}
		if len(trimmed.Clauses) > 0 && len(trimmed.Clauses) < len(p.Clauses) {
			seen["trimmed"]++
		}
		wantRested(t, trimmed)
		goals := w.goals()
		part := plainSlice(p, goals)
		if got := lint.Slice(p, goals...); !sameProgram(got, part) {
			t.Fatalf("Slice(%s, %v) = %s, want %s", print.Program(p), goals, print.Program(got), print.Program(part))
		}
		if len(part.Clauses) > 0 && len(part.Clauses) < len(p.Clauses) {
			seen["sliced"]++
		}
		countCovers(t, p, seen)
	}
	for kind := api.FTwice; kind <= api.FUnused; kind++ {
		if kinds[kind] < 700 {
			t.Errorf("%d findings of kind %d", kinds[kind], kind)
		}
	}
	for what, least := range map[string]int{"trimmed": 1000, "sliced": 500, "covers": 2500, "covers not": 2500, "each other": 400} {
		if seen[what] < least {
			t.Errorf("%s: %d", what, seen[what])
		}
	}
}

// wantRested wants that Trim finds nothing more to leave out, and Look neither.
func wantRested(t *testing.T, p api.Program) {
	t.Helper()
	if got := lint.Trim(p); !sameProgram(got, p) {
		t.Fatalf("Trim of what is trimmed, %s, is %s", print.Program(p), print.Program(got))
	}
	for _, f := range lint.Look(p) {
		if f.Kind != api.FSingle && f.Kind != api.FUnused {
			t.Fatalf("Look of what is trimmed, %s, finds %v", print.Program(p), f)
		}
	}
}

// countCovers looks at each two clauses with one predicate.
func countCovers(t *testing.T, p api.Program, seen map[string]int) {
	t.Helper()
	for i, a := range p.Clauses {
		for j, b := range p.Clauses {
			got := lint.Covers(a, b)
			if got != plainCovers(a, b) {
				t.Fatalf("Covers(%s ; %s) = %v", print.Clause(a), print.Clause(b), got)
			}
			switch {
			case a.Head.Pred != b.Head.Pred || i == j:
			case got && !plainAgain(a, b):
				seen["covers"]++
				if plainCovers(b, a) {
					seen["each other"]++
				}
			case !got:
				seen["covers not"]++
			}
		}
	}
}

// model is what a program comes to over a facts text, by predicates; nil where Load does not take them.
func (w wild) model(p api.Program, facts string) map[string][]string {
	e, _, fault := engine.Load(print.Program(p), facts)
	if fault.Code != api.OK {
		return nil
	}
	for out := (api.Outcome{}); out.Stop != api.Done; {
		out = e.Run([]int{w.Intn(9), w.Intn(9), w.Intn(9)}, uint64(1+w.Intn(40)), math.MaxUint64)
	}
	all := map[string][]string{}
	for line := range strings.Lines(e.Model()) {
		f, _ := parse.Facts(line)
		all[f[0].Pred] = append(all[f[0].Pred], line)
	}
	return all
}

// P4, P6
func TestSameModel(t *testing.T) {
	w := wild{Rand: rand.New(rand.NewSource(4)), safe: true}
	seen := map[string]int{}
	for range 3000 {
		p, facts := w.program(), w.facts()
		whole := w.model(p, facts)
		if whole == nil {
			continue
		}
		trimmed := lint.Trim(p)
		if len(print.Program(trimmed)) > len(print.Program(p)) {
			t.Fatalf("Trim(%s) is longer: %s", print.Program(p), print.Program(trimmed))
		}
		got := w.model(trimmed, facts)
		if got == nil || !maps.EqualFunc(got, whole, slices.Equal) {
			t.Fatalf("%s over %s comes to %v, trimmed to %v by %s", print.Program(p), facts, whole, got, print.Program(trimmed))
		}
		goals := w.goals()
		part := lint.Slice(p, goals...)
		sliced := w.model(part, facts)
		if sliced == nil {
			t.Fatalf("Load takes %s and %s, but not the slice for %v, %s", print.Program(p), facts, goals, print.Program(part))
		}
		for pred := range plainHang(p, goals) {
			if !slices.Equal(sliced[pred], whole[pred]) {
				t.Fatalf("%s over %s comes to %v, the slice for %v to %v", print.Program(p), facts, whole, goals, sliced)
			}
		}
		seen["accepted"]++
		if len(trimmed.Clauses) < len(p.Clauses) {
			seen["trimmed"]++
		}
		if len(part.Clauses) > 0 && len(part.Clauses) < len(p.Clauses) {
			seen["sliced"]++
		}
		if len(whole["p"])+len(whole["q"])+len(whole["r"]) > 4 {
			seen["derived"]++
		}
	}
	for _, what := range []string{"accepted", "trimmed", "sliced", "derived"} {
		if seen[what] < 500 {
			t.Errorf("%s: %d", what, seen[what])
		}
	}
}
