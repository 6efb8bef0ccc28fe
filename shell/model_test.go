package shell_test

import (
	"fmt"
	"math/rand"
	"slices"
	"sort"
	"strings"
	"testing"

	"edict/api"
	"edict/parse"
	"edict/print"
	"edict/shell"
	"edict/sym"
)

// Shells held against plain ones, over wild scripts.

// wild makes lines.
type wild struct{ *rand.Rand }

func (w wild) of(words ...string) string { return words[w.Intn(len(words))] }

func (w wild) constant() string { return w.of("a", "b", "c", "1", "-2", `"a b"`, `"\n"`) }

func (w wild) atom() string {
	term := func() string { return w.of("X", "Y", "_", w.constant()) }
	return w.of("e("+term()+", "+term()+")", "n("+term()+")", "t("+term()+", "+term()+")", "s("+term()+")", "z", "u("+term()+")")
}

func (w wild) fact() string {
	return w.of("e("+w.constant()+", "+w.constant()+")", "n("+w.constant()+")", "n("+w.constant()+")", "z", "t("+w.constant()+", "+w.constant()+")", "e(a, b)", "e(b, c)", "n(c)", "s(a)")
}

func (w wild) rule() string {
	return w.of("t(X, Y) :- e(X, Y).", "t(X, Z) :- e(X, Y), t(Y, Z).", "t(X, Z) :- t(X, Y), t(Y, Z), X != Z.", "s(X) :- n(X), not t(X, X).", "s(X) :- n(X), e(_, X), not t(X, c), X < c.", "z :- not s(a).", "z :- s(X), s(Y), X < Y, not u(Y).", "n(X) :- e(X, _).", "u(X) :- s(X), z.", "u(1) :- z, not t(a, a).",
		w.fact()+".", "/* e.", "*/", "% e", "t(X, X) :-", "n(X).", "e(a, X) :- n(X), not z.", "t :- z.", "w :- not w.", "z(1).")
}

func (w wild) number() string {
	return w.of("0", "1", "2", "3", "5", "8", "13", "21", "34", "max", "max", "max", "007", "18446744073709551615", "00000000000000000003", "18446744073709551616", "000000000000000000001", "x", "-1")
}

func (w wild) pick() string {
	return w.of("0", "1", "-1", "2", "-2", "5", "77", "-30", "-9223372036854775808", "9223372036854775807", "0000000000000000003", "9223372036854775808", "-9223372036854775809", "max", "-", "")
}

// nice is a line with the form of its command.
func (w wild) nice() string {
	switch w.Intn(30) {
	case 0, 1, 2:
		return "rule " + w.rule()
	case 3, 4:
		return "fact " + w.fact() + "."
	case 5, 6:
		return w.of("load", "load", "save", "back", "reset", "text", "new")
	case 7, 8, 9, 10:
		line := "run " + w.number() + " " + w.number()
		for range w.Intn(4) {
			line += " " + w.pick()
		}
		return line
	case 11, 12, 13, 14:
		return w.of("show", "conflict", "eligible", "log", "plan", "text")
	case 15, 16, 17, 18:
		parts := []string{w.atom()}
		for w.Intn(2) == 0 {
			parts = append(parts, w.of(w.atom(), "not "+w.atom(), "X < Y", "Y != a", "a < b"))
		}
		return "ask " + w.of("0", "1", "2", "9", "4096", "4097", "x", "0000000009") + " " + strings.Join(parts, ", ") + w.of(".", ".", ".", "", "..", "?")
	case 19, 20, 21, 22:
		return "why " + w.of(w.fact(), w.fact(), w.of("t(a, c)", "s(c)", "u(c)", "z", "s(a)"), w.atom()) + w.of("", "", "", "", ".")
	case 23, 24, 25, 26:
		line := "whynot " + w.of("0", "1", "2", "3", "000000001", "9", "x")
		for range w.Intn(4) {
			line += " " + w.of("a", "b", "c", "c", "a", "b", w.constant(), w.of("X", "?", "not", `"`))
		}
		return line
	}
	return w.of("", "#", "# rule a.", "what", "show ", "load ", "ask", "run", "whynot", "why", "rule", "fact", " ", "back ")
}

// line is a nice one, or one with a byte more, less or another.
func (w wild) line() string {
	line := w.nice()
	if w.Intn(25) > 0 {
		return line
	}
	at := w.Intn(len(line) + 1)
	with := w.of(" ", "\n", "(", ")", ".", "#", "\x00", "\xff", "1", "9", "X", "-", `"`)
	return w.of(line[:at]+with+line[at:], line[:at]+with+line[min(at+1, len(line)):], line[:at]+line[min(at+1, len(line)):])
}

// start is lines that often lead to an engine.
func (w wild) start() []string {
	var lines []string
	for range w.Intn(4) {
		lines = append(lines, "rule "+w.of("t(X, Y) :- e(X, Y).", "t(X, Z) :- e(X, Y), t(Y, Z).", "t(X, Z) :- t(X, Y), t(Y, Z), X != Z.", "s(X) :- n(X), not t(X, X).", "s(X) :- n(X), X < b, not t(X, X).", "s(X) :- n(X), X < c.", "u(X) :- s(X), z.", "z :- not s(a)."))
	}
	for range w.Intn(7) {
		lines = append(lines, "fact "+w.fact()+".")
	}
	return append(lines, "load")
}

func refused(lines []string) bool {
	return len(lines) == 1 && (strings.HasPrefix(lines[0], "error ") || strings.HasPrefix(lines[0], "fault "))
}

// kind is what makes an answer to count: the command, and how it answered.
func kind(line string, lines []string) string {
	word, _, _ := strings.Cut(line, " ")
	switch {
	case len(lines) == 0:
		return word + ": none"
	case word == "run" || refused(lines):
		return word + ": " + strings.Join(strings.Fields(lines[0])[:min(2, len(strings.Fields(lines[0])))], " ")
	case word == "whynot":
		return word + ": " + strings.Fields(lines[0])[0]
	}
	return word + ": lines"
}

// P17.1
func TestWildLines(t *testing.T) {
	w := wild{rand.New(rand.NewSource(17))}
	met := map[string]int{}
	for round := range 4000 {
		s, p := shell.New(), &plain{}
		said := w.start()
		for range w.Intn(60) {
			said = append(said, w.line())
		}
		for num, line := range said {
			lines := s.Line(line)
			got := ""
			for _, l := range lines {
				got += l + "\n"
			}
			if want := p.line(line); got != want {
				t.Fatalf("round %d: behind %q, %q answers %q, want %q", round, said[:num], line, got, want)
			}
			met[kind(line, lines)]++
		}
	}
	for _, k := range []string{"rule: none", "fact: none", "new: none", "load: lines", "load: fault 20", "load: fault 21", "load: fault 16", "load: fault 33", "load: fault 30", "load: fault 40", "text: lines", "text: none", "text: fault 20",
		"run: done steps", "run: steps steps", "run: memory steps", "run: error 2", "run: error 53", "show: lines", "show: error 53", "conflict: lines", "conflict: none", "eligible: lines", "eligible: none", "log: lines", "log: none", "plan: lines",
		"ask: lines", "ask: fault 33", "ask: fault 2", "ask: fault 21", "ask: fault 10", "ask: fault 20", "ask: error 2", "ask: error 53", "why: lines", "why: error 50", "why: fault 20", "why: error 53",
		"whynot: missing", "whynot: fails", "whynot: blocked", "whynot: nothing", "whynot: error 2", "whynot: error 50", "whynot: fault 10", "whynot: fault 11", "whynot: error 53", "save: none", "save: error 53", "back: none", "back: error 50", "back: error 2", "reset: none", "what: error 20", "#: none"} {
		if met[k] < 20 {
			t.Errorf("%q is met %d times: too few", k, met[k])
		}
	}
}

// P17.2 and P17.3: what a script answers is what its lines answer, one by one, wherever it is cut; and without the lines that are refused the rest answers the same.
func TestWildScripts(t *testing.T) {
	w := wild{rand.New(rand.NewSource(18))}
	cuts := 0
	for round := range 400 {
		var said []string
		for range 1 + w.Intn(3) {
			said = append(said, w.start()...)
			for range w.Intn(30) {
				said = append(said, strings.ReplaceAll(w.line(), "\n", ""))
			}
		}
		said = append(said, "text", "show", "conflict", "eligible", "log", "plan", "back", "show", "log", "back", "show", "log", "back", "back", "load", "show")
		all, without := shell.New(), shell.New()
		answers := make([]string, len(said)+1) // of the lines up to there
		for num, line := range said {
			lines := all.Line(line)
			answers[num+1] = answers[num] + strings.Join(append(lines, ""), "\n")
			if !refused(lines) {
				if got := without.Line(line); !slices.Equal(got, lines) {
					t.Fatalf("round %d: behind %q: %q answers %q, and %q without the lines that are refused", round, said[:num], line, lines, got)
				}
			}
		}
		at := w.Intn(len(said))
		for _, script := range []struct{ text, want string }{
			{strings.Join(said, "\n"), answers[len(said)]},
			{strings.Join(append(slices.Clone(said), ""), "\n"), answers[len(said)]},
			{strings.Join(said[:at], "\n"), answers[at]},
		} {
			if got := shell.Run(script.text); got != script.want {
				t.Fatalf("round %d: Run(%q) = %q, want %q", round, script.text, got, script.want)
			}
		}
		if answers[at] != "" && answers[at] != answers[len(said)] {
			cuts++
		}
	}
	if cuts < 200 {
		t.Errorf("%d scripts are cut somewhere: too few", cuts)
	}
}

// P17.4

// perfect is the lines of the perfect model of texts that are right, by DOC.md's words.
func perfect(src, facts string) []string {
	p, _ := parse.Program(src)
	given, _ := parse.Facts(facts)
	consts, model, levels := map[string]int{}, map[string]int{}, map[string]int{}
	meet := func(terms ...api.Term) {
		for _, x := range terms {
			if x.Kind != api.KVar {
				consts[print.Term(x)] = 1
			}
		}
	}
	for _, a := range given {
		meet(a.Args...)
		model[print.Atom(a)] = 1
	}
	highest := 0
	for range 200 {
		for _, c := range p.Clauses {
			meet(c.Head.Args...)
			for _, l := range c.Body {
				meet(append([]api.Term{l.Left, l.Right}, l.Atom.Args...)...)
				if l.Kind != api.LTest {
					levels[c.Head.Pred] = max(levels[c.Head.Pred], levels[l.Atom.Pred]+l.Kind-api.LPos)
				}
			}
			highest = max(highest, levels[c.Head.Pred])
		}
	}
	delete(consts, "")
	for level := range highest + 1 {
		for count := -1; count != len(model); {
			count = len(model)
			for _, c := range p.Clauses {
				if len(c.Body) == 0 || levels[c.Head.Pred] == level {
					derive(c, consts, model)
				}
			}
		}
	}
	var lines []string
	for f := range model {
		lines = append(lines, f+".")
	}
	sort.Strings(lines)
	return lines
}

// derive puts in the heads of a clause under all substitutions that satisfy its body.
func derive(c api.Clause, consts, model map[string]int) {
	var vars []string
	c, vars = named(c)
	var try func(ahead int, values map[string]string)
	try = func(ahead int, values map[string]string) {
		if ahead < len(vars) {
			for x := range consts {
				values[vars[ahead]] = x
				try(ahead+1, values)
			}
			return
		}
		for _, l := range c.Body {
			holds := model[ground(l.Atom, values)] == 1
			if l.Kind == api.LTest {
				holds = compared(l, values)
			}
			if holds == (l.Kind == api.LNeg) {
				return
			}
		}
		model[ground(c.Head, values)] = 1
	}
	try(0, map[string]string{})
}

// named gives each variable that is a _ a name of its own.
func named(c api.Clause) (api.Clause, []string) {
	var vars []string
	name := func(x *api.Term) {
		if x.Kind != api.KVar {
			return
		}
		if x.Text == "_" {
			x.Text = fmt.Sprintf("_%d", len(vars))
		}
		if !slices.Contains(vars, x.Text) {
			vars = append(vars, x.Text)
		}
	}
	own := api.Clause{Head: c.Head}
	own.Head.Args = slices.Clone(c.Head.Args)
	for num := range own.Head.Args {
		name(&own.Head.Args[num])
	}
	for _, l := range c.Body {
		l.Atom.Args = slices.Clone(l.Atom.Args)
		for num := range l.Atom.Args {
			name(&l.Atom.Args[num])
		}
		name(&l.Left)
		name(&l.Right)
		own.Body = append(own.Body, l)
	}
	return own, vars
}

func value(x api.Term, values map[string]string) string {
	if x.Kind == api.KVar {
		return values[x.Text]
	}
	return print.Term(x)
}

func ground(a api.Atom, values map[string]string) string {
	var args []string
	for _, x := range a.Args {
		args = append(args, value(x, values))
	}
	if len(args) == 0 {
		return a.Pred
	}
	return a.Pred + "(" + strings.Join(args, ", ") + ")"
}

func compared(l api.Literal, values map[string]string) bool {
	left, _ := sym.Read(value(l.Left, values))
	right, _ := sym.Read(value(l.Right, values))
	c := sym.Compare(left, right)
	return map[int]bool{api.OpEq: c == 0, api.OpNe: c != 0, api.OpLt: c < 0, api.OpLe: c <= 0, api.OpGt: c > 0, api.OpGe: c >= 0}[l.Op]
}

func TestWildRest(t *testing.T) {
	w := wild{rand.New(rand.NewSource(19))}
	rests, grown := 0, 0
	for round := range 800 {
		s, p := shell.New(), &plain{}
		for _, line := range w.start() {
			s.Line(line)
			p.line(line)
		}
		for range w.Intn(3) {
			line := "rule " + w.rule()
			s.Line(line)
			p.line(line)
		}
		if refused(s.Line("load")) {
			continue
		}
		given := len(s.Line("show"))
		for range w.Intn(5) {
			s.Line("run " + w.of("0", "1", "2", "5", "max") + " " + w.of("0", "4", "9", "30", "max") + " " + w.of("0", "1", "-1", "7 -7 3 3", "-4 2"))
			s.Line(w.of("show", "conflict", "# no", "save", "reset", "run", "rule", "ask 1 e(X, Y)."))
		}
		last := s.Line("run max max " + w.of("0", "-1", "3 2 1", "-5 5 -5 5", "1"))
		if len(last) != 1 || !strings.HasPrefix(last[0], "done ") {
			t.Fatalf("round %d: a run without bounds answers %q", round, last)
		}
		got := s.Line("show")
		if want := perfect(p.program, p.facts); !slices.Equal(got, want) {
			t.Fatalf("round %d: show answers %q, want %q, of %q and %q", round, got, want, p.program, p.facts)
		}
		rests++
		if len(got) > given {
			grown++
		}
	}
	if rests < 300 || grown < 200 {
		t.Errorf("%d programs at rest, %d of them grown: too few", rests, grown)
	}
}
