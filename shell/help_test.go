package shell_test

import (
	"slices"
	"strings"
	"testing"

	"edict/shell"
)

// paths is the script of the chapter's first example up to load; loaded is what load answers to it.
var paths = []string{
	"rule path(X, Y) :- edge(X, Y).",
	"rule path(X, Z) :- edge(X, Y), path(Y, Z).",
	"rule lonely(X) :- node(X), not path(X, X).",
	"fact edge(a, b). edge(b, a).",
	"fact edge(b, c). node(a). node(c).",
	"load",
}

const loaded = "loaded rules 3 preds 4 consts 3 facts 5 strata 2 nodes 5 bound 39 tokens 42"

// model is the lines of show behind a run to the end.
const model = "edge(a, b).|edge(b, a).|edge(b, c).|lonely(c).|node(a).|node(c).|path(a, a).|path(a, b).|path(a, c).|path(b, a).|path(b, b).|path(b, c)."

// told is a shell that was given lines.
func told(lines ...string) *shell.Shell {
	s := shell.New()
	for _, l := range lines {
		s.Line(l)
	}
	return s
}

// rested is the shell of the first example behind its run.
func rested(t *testing.T) *shell.Shell {
	t.Helper()
	s := told(paths...)
	want(t, s, "run max max", "done steps 10 fresh 7 live 12")
	return s
}

// answer is a line's answer as one text, with a bar between the lines.
func answer(s *shell.Shell, line string) string { return strings.Join(s.Line(line), "|") }

// want holds lines' answers: a line, its answer, a line, its answer.
func want(t *testing.T, s *shell.Shell, pairs ...string) {
	t.Helper()
	for pair := range slices.Chunk(pairs, 2) {
		lines := s.Line(pair[0])
		if got := strings.Join(lines, "|"); got != pair[1] || (len(lines) > 0) != (pair[1] != "") {
			t.Errorf("%.200q answers %q, want %q", pair[0], lines, pair[1])
		}
	}
}

// wantAll holds that each of the lines answers the same.
func wantAll(t *testing.T, s *shell.Shell, answer string, lines ...string) {
	t.Helper()
	for _, l := range lines {
		want(t, s, l, answer)
	}
}

func wantRun(t *testing.T, script string, want string) {
	t.Helper()
	if got := shell.Run(script); got != want {
		t.Errorf("Run(%.200q) = %.400q, want %.400q", script, got, want)
	}
}
