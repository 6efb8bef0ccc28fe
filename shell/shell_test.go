package shell_test

import (
	"fmt"
	"strings"
	"testing"

	"edict/shell"
)

// The chapter's examples

func TestFirstExample(t *testing.T) {
	wantRun(t, strings.Join(paths, "\n")+"\nrun max max\nshow\nask 1 lonely(X).\nwhy path(a, a)\n", loaded+`
done steps 10 fresh 7 live 12
edge(a, b).
edge(b, a).
edge(b, c).
lonely(c).
node(a).
node(c).
path(a, a).
path(a, b).
path(a, c).
path(b, a).
path(b, b).
path(b, c).
answers 1
X=c
0: edge(a, b) given
1: edge(b, a) given
2: path(b, a) by 0 {b, a} from 1
3: path(a, a) by 1 {a, b, a} from 0, 2
`)
}

func TestSecondExample(t *testing.T) {
	want(t, shell.New(), "run 1 1", "error 53", "run 1", "error 2", "run 1 1 1 x", "error 2", "run  1 1", "error 2", "runs", "error 20", "show ", "error 2", "back", "error 50", "rule", "", "text", "")
	want(t, told("rule", "rule ?"), "load", "fault 10 0 2 1")
}

func TestThirdExample(t *testing.T) {
	s := told(paths...)
	want(t, s, "conflict", "0: X=a Y=b|0: X=b Y=a|0: X=b Y=c|2: X=a|2: X=c", "eligible", "0: X=a Y=b|0: X=b Y=a|0: X=b Y=c",
		"run 2 max 1 -1", "steps steps 2 fresh 2 live 8", "log", "new 0 path(b, a).|new 1 path(a, a).")
}

func TestFourthExample(t *testing.T) {
	want(t, told("rule p :- q(."), "load", "fault 20 0 1 8", "show", "error 53")
	want(t, told("rule p(X)."), "load", "fault 33 0 1 3")
	want(t, told("fact p(X)."), "load", "fault 20 1 1 3")
}

func TestFifthExample(t *testing.T) {
	want(t, rested(t), "whynot 2 a", "blocked 0 path(a, a)", "whynot 2 b", "missing 0 node(b)|blocked 0 path(b, b)", "whynot 2 c", "nothing", "whynot 2", "error 2", "whynot 9 c", "error 50",
		"whynot x", "error 2", "whynot 2 X", "error 2", `whynot 2 "a`, "fault 11 0 1 1", "why edge(c, c)", "error 50", "why edge(", "fault 21 0 1 6",
		"ask 1 path(X, Y).", "answers 1 and more|X=a Y=a", "ask 0 node(b).", "answers 0", "ask 1 node(a).", "answers 1|yes", "ask 1 lonely(X)", "fault 21 0 1 10", "ask", "error 2")
}

// Lines: what is a command, and what is none

func TestLinesThatDoNothing(t *testing.T) {
	s := rested(t)
	wantAll(t, s, "", "", "#", "# run", "#run 1 1", "#\x00\r", "# \xff")
	want(t, s, "show", model)
}

func TestLineEndsInLines(t *testing.T) {
	s := told("rule a.")
	wantAll(t, s, "error 2", "\n", "#\n", "# a\nb", "rule b.\n", "rule b.\nrule c.", "\nnew", "new\n", "runs\n", "show \n")
	want(t, s, "text", "a.")
}

func TestCommandWords(t *testing.T) {
	s := rested(t)
	wantAll(t, s, "error 20", " ", " show", "  ", "Show", "SHOW", "shows", "sho", "show\t", "show\r", "\tshow", "show\x00", "rule\ta.", "whynot\xa02 a", "%", "ask1 p.", "facts a.", "rules a.", "error", "quit", "why_not", " #", "\xff", "é")
	wantAll(t, shell.New(), "error 20", " new", "News", "ren", "fac t", "wh")
	want(t, s, "show", model)
}

// noRest is the commands that are a word alone; of these back, new, load and text need no engine.
var noRest = []string{"new", "load", "text", "show", "conflict", "eligible", "log", "plan", "save", "back", "reset"}

func TestNoRest(t *testing.T) {
	for _, s := range []*shell.Shell{rested(t), shell.New()} {
		for _, word := range noRest {
			wantAll(t, s, "error 2", word+" ", word+"  ", word+" x", word+" 1 1", word+" \r", word+" #")
		}
	}
	s := rested(t)
	want(t, s, "save", "")
	for _, word := range noRest {
		want(t, s, word+" ", "error 2")
	}
	want(t, s, "show", model, "back", "", "back", "error 50")
}

func TestWithoutAnEngine(t *testing.T) {
	needy := []string{"run 1 1", "run max max -1", "show", "conflict", "eligible", "log", "plan", "ask 1 p.", "ask 1 ", "why", "why ", "why p", "whynot 0", "whynot 0 ", "whynot 0 X", `whynot 0 "`, "save", "reset"}
	wantAll(t, shell.New(), "error 53", needy...)
	wantAll(t, told("rule p :- q(.", "load"), "error 53", needy...)
	wantAll(t, told("rule p.", "text"), "error 53", needy...)
	wantAll(t, told("rule p.", "load", "save", "new"), "error 53", needy...)
	want(t, told("rule p.", "load", "save", "new"), "back", "error 50", "text", "", "load", "loaded rules 0 preds 0 consts 0 facts 0 strata 0 nodes 1 bound 0 tokens 0")
}

// A wrong rest comes ahead of the engine that is not there.
func TestWrongRests(t *testing.T) {
	wrong := []string{
		"run", "run ", "run 1", "run  ", "run 1 ", "run  1", "run 1  1", "run 1 1 ", "run  1 1", "run 1 1  1", "run 1 1 1 ", "run 1\t1", "run 1 1\r", "run max", "run x 1", "run 1 x", "run 1 1 x",
		"run -1 1", "run 1 -1", "run +1 1", "run 1 +1", "run 1 1 +1", "run MAX 1", "run 1 Max", "run 1 1 max", "run max1 1", "run 1 1 -max", "run 0x1 1", "run 1_0 1", "run 1e3 1", "run 1. 1", "run 1 1 1.0",
		"run 18446744073709551616 1", "run 1 18446744073709551616", "run 99999999999999999999 1", "run 000000000000000000001 1", "run 1 000000000000000000000",
		"run 1 1 9223372036854775808", "run 1 1 -9223372036854775809", "run 1 1 9999999999999999999", "run 1 1 00000000000000000001", "run 1 1 -00000000000000000000", "run 1 1 18446744073709551615",
		"run 1 1 -", "run 1 1 --1", "run 1 1 - 1", "run 1 1 1-", "run 1 1 1 2 3 x 4", "run 1 1 x 1", "run 1 1 -x",
		"ask", "ask ", "ask 1", "ask 1\tp.", "ask p.", "ask p. 1", "ask  1 p.", "ask  p.", "ask x p.", "ask -1 p.", "ask +1 p.", "ask max p.", "ask 0000000001 p.", "ask 1000000000 p.", "ask 1x p.", "ask 0x1 p.", "ask 1_0 p.",
		"whynot", "whynot ", "whynot  ", "whynot  0", "whynot x", "whynot -1", "whynot +1 a", "whynot a 0", "whynot 0x", "whynot 0000000001", "whynot 1000000000 a", "whynot max", "whynot 0\ta", "whynot 0,a",
	}
	wantAll(t, shell.New(), "error 2", wrong...)
	s := rested(t)
	wantAll(t, s, "error 2", wrong...)
	want(t, s, "show", model)
}

func TestNumbers(t *testing.T) {
	wantAll(t, shell.New(), "error 53", "run 0 0", "run 18446744073709551615 18446744073709551615", "run 00000000000000000001 00000000000000000000", "run 1 1 9223372036854775807", "run 1 1 -9223372036854775808",
		"run 1 1 0000000000000000001 -0000000000000000001 -0 0", "run 1 1 1 2 3 4 5 6 7 8 9", "ask 999999999 p.", "ask 000000001 p.", "ask 0 p.", "whynot 999999999", "whynot 000000000 a")
	// Each number is taken for what it is.
	s := told(paths...)
	want(t, s, "save", "", "run 00000000000000000002 18446744073709551615", "steps steps 2 fresh 2 live 9", "run 18446744073709551615 008", "memory steps 0 fresh 0 live 9", "run 1 00000000000000000012", "steps steps 1 fresh 1 live 10",
		"run max max", "done steps 7 fresh 4 live 12", "whynot 002 c", "nothing", "ask 002 node(X).", "answers 2|X=a|X=c", "ask 00001 node(X).", "answers 1 and more|X=a")
	for _, c := range []struct{ pick, head string }{ // of three eligible acts: a b, b a, b c
		{"0", "a, b"}, {"1", "b, a"}, {"2", "b, c"}, {"3", "a, b"}, {"-1", "b, c"}, {"-2", "b, a"}, {"-3", "a, b"}, {"-0", "a, b"}, {"0000000000000000004", "b, a"}, {"-0000000000000000004", "b, c"},
		{"9223372036854775807", "b, a"}, {"-9223372036854775808", "b, a"}, {"9223372036854775806", "a, b"}, {"-9223372036854775807", "b, c"},
	} {
		want(t, s, "back", "", "save", "", "run 1 max "+c.pick, "steps steps 1 fresh 1 live 8", "log", "new 0 path("+c.head+").")
	}
}

// The commands

func TestTextsGrow(t *testing.T) {
	s := told("rule a.", "rule  b :- a.", "rule", "rule ", "rule c(", "rule 1", "rule ). % d.", "fact", "fact b. c(2).", "fact   c(3)", "fact .")
	want(t, s, "text", "a.|b :- a.|c(1).", "load", "loaded rules 1 preds 3 consts 3 facts 5 strata 1 nodes 2 bound 1 tokens 1", "show", "a.|b.|c(1).|c(2).|c(3).")
	want(t, s, "rule /* d.", "", "text", "fault 16 0 8 1", "rule */ e.", "", "text", "a.|b :- a.|c(1).|e.", "fact ?", "", "load", "fault 10 1 5 1", "text", "a.|b :- a.|c(1).|e.", "show", "a.|b.|c(1).|c(2).|c(3).")
	want(t, told("rule\x20\x20\x20a.\r", "rule rule b."), "text", "fault 20 0 2 6")
	want(t, told("rule # a.", "rule b."), "text", "fault 10 0 1 1")
	want(t, told("rule \x00"), "load", "fault 10 0 1 1")
	want(t, told("fact \xff"), "load", "fault 10 1 1 1")
}

func TestLoadsFaults(t *testing.T) {
	long := strings.Repeat(" ", 65536)
	for _, c := range []struct {
		lines  string
		answer string
	}{
		{"rule " + long + "|fact " + long, "fault 1 0 0 0"}, {"fact " + long + "|rule p(", "fault 1 1 0 0"}, {"rule " + long[:65535] + "|fact " + long[:65535] + "|rule", "fault 1 0 0 0"},
		{"rule a.|rule  a:b.", "fault 10 0 2 3"}, {"rule|rule p(\"a).", "fault 11 0 2 3"}, {`rule p("a\q").`, "fault 12 0 1 5"}, {"rule p(1x).", "fault 13 0 1 3"}, {"rule a" + strings.Repeat("b", 64), "fault 14 0 1 1"},
		{`fact p("` + strings.Repeat("b", 256) + `").`, "fault 15 1 1 3"}, {"fact a.|fact b. /*", "fault 16 1 2 4"}, {"rule a.|rule not b.", "fault 20 0 2 1"}, {"rule a", "fault 21 0 2 1"}, {"fact a", "fault 21 1 2 1"},
		{"rule p(1, 2, 3, 4, 5, 6, 7, 8, 9).", "fault 22 0 1 27"}, {"rule p :- " + strings.Repeat("q, ", 16) + "q.", "fault 23 0 1 54"}, {"rule a.|rule a(1).", "fault 30 0 2 1"}, {"rule a.|fact|fact a(1).", "fault 30 1 2 1"},
		{"rule p(A, B, C, D, E, F, G, H) :- q(I, J, K, L, M, N, O, P), q(Q, A, B, C, D, E, F, G).", "fault 32 0 1 59"}, {"rule a :-|rule b,|rule  X < 1.", "fault 33 0 3 2"}, {"rule w :- a,|rule not w.", "fault 40 0 2 1"},
		{strings.Repeat("rule a.|", 512) + "rule|rule a.", "fault 24 0 514 1"}, {strings.Repeat("fact a.|", 4096) + "fact  a.", "fault 24 1 4097 2"},
	} {
		s := told(strings.Split(c.lines, "|")...)
		want(t, s, "load", c.answer, "show", "error 53")
	}
	preds := []string{"rule "}
	for num := range 128 {
		preds[0] += fmt.Sprintf("p%d. ", num)
	}
	want(t, told(preds[0]), "load", "loaded rules 0 preds 128 consts 0 facts 128 strata 1 nodes 1 bound 0 tokens 0", "rule q.", "", "load", "fault 31 0 2 1", "run max max", "done steps 0 fresh 0 live 0")
}

func TestLoad(t *testing.T) {
	want(t, shell.New(), "load", "loaded rules 0 preds 0 consts 0 facts 0 strata 0 nodes 1 bound 0 tokens 0", "run 0 0", "done steps 0 fresh 0 live 0", "show", "", "conflict", "", "eligible", "", "log", "", "plan", "node 0 root")
	// Each number has its own place.
	want(t, told("rule p(X) :- q(X, Y), not r(Y), X < 5. s(1). p(X) :- s(X).", "fact q(1, 2). q(3, 4). r(2)."),
		"load", "loaded rules 2 preds 4 consts 5 facts 4 strata 2 nodes 5 bound 30 tokens 80")
	big := told("rule p(A) :- q(A, B, C, D, E, F, G, H), q(I, J, K, L, M, N, O, P).", "fact q(0, 1, 2, 3, 4, 5, 6, 7). q(8, 9, a, b, c, d, e, f).")
	want(t, big, "load", "loaded rules 1 preds 2 consts 16 facts 2 strata 1 nodes 3 bound 18446744073709551615 tokens 18446744073709551615")
	// A new engine begins anew; a refused one leaves the old one as it was.
	s := rested(t)
	want(t, s, "load", loaded, "log", "", "show", "edge(a, b).|edge(b, a).|edge(b, c).|node(a).|node(c).", "run 1 max", "steps steps 1 fresh 1 live 8",
		"rule w :- not w.", "", "load", "fault 40 0 4 6", "log", "new 0 path(a, b).", "run max max", "done steps 9 fresh 6 live 12", "show", model)
}

func TestText(t *testing.T) {
	want(t, told(`rule p( X,"a\x41" ) :-q( X ),not  r,`, "rule X=3, 4 !=X /* c */. % d", "rule s. s(01)."), "text", `p(X, "aA") :- q(X), not r, X = 3, 4 != X.|s.|s(1).`)
	want(t, told("rule p(X). q(X) :- not q(X).", "load"), "text", "p(X).|q(X) :- not q(X).")
	want(t, told("rule % nothing"), "text", "")
}

func TestRun(t *testing.T) {
	s := told("rule p(X) :- q(X). p(X) :- q(X), not r(X). p(X) :- p(X).", "fact q(1). q(2). r(1).", "load")
	want(t, s, "save", "", "run 0 0", "memory steps 0 fresh 0 live 1", "run 0 3", "steps steps 0 fresh 0 live 3", "run max 3", "memory steps 0 fresh 0 live 3", "run 1 4", "steps steps 1 fresh 1 live 4",
		"run 1 4 1", "memory steps 0 fresh 0 live 4", "run 9 5 0", "done steps 4 fresh 1 live 5", "log", "new 0 p(1).|new 0 p(2).|old 1 p(2).|old 2 p(1).|old 2 p(2).", "run 9 4", "memory steps 0 fresh 0 live 5", "run 0 5", "done steps 0 fresh 0 live 5")
	want(t, s, "back", "", "log", "", "run 3 max -1 -1", "steps steps 3 fresh 2 live 5", "log", "new 1 p(2).|old 2 p(2).|new 0 p(1).", "eligible", "0: X=2|2: X=1", "conflict", "0: X=1|0: X=2|1: X=2|2: X=1|2: X=2")
}

func TestActsOfManyForms(t *testing.T) {
	s := told(`rule h(Y) :- q(X, _, Y, _), X < Y. z :- not h(1), not h("a b"). one(a) :- q(1, A_b, _, B).`, `fact q(1, -5, "x\n\"", nota). q(z, z, z, z).`, "load")
	want(t, s, "conflict", `0: X=1 _=-5 Y="x\n\"" _=nota|1:|2: A_b=-5 _="x\n\"" B=nota`, "eligible", `0: X=1 _=-5 Y="x\n\"" _=nota|2: A_b=-5 _="x\n\"" B=nota`,
		"run max max", "done steps 3 fresh 3 live 6", "log", `new 0 h("x\n\"").|new 2 one(a).|new 1 z.`, "show", `h("x\n\"").|one(a).|q(1, -5, "x\n\"", nota).|q(z, z, z, z).|z.`,
		"why z", "0: z by 1 {}", "why one(a)", `0: q(1, -5, "x\n\"", nota) given|1: one(a) by 2 {-5, "x\n\"", nota} from 0`)
}

func TestPlan(t *testing.T) {
	want(t, told(paths...), "plan", "alpha 0 1(*, *)|alpha 1 0(*, *)|alpha 2 3(*)|alpha 3 0(*, =0)|node 0 root|node 1 join 0 under 0 new 0, 1 width 2|node 2 join 1 under 1 link 0=v1 new 1 width 3|"+
		"node 3 join 2 under 0 new 0 width 1|node 4 neg 3 under 3 link 0=v0 width 1|rule 0 at 1|rule 1 at 2|rule 2 at 4")
}

func TestAsk(t *testing.T) {
	s := rested(t)
	want(t, s, "ask 9 edge(X, Y).", "answers 3|X=a Y=b|X=b Y=a|X=b Y=c", "ask 3 edge(X, Y).", "answers 3|X=a Y=b|X=b Y=a|X=b Y=c", "ask 2 edge(X, Y).", "answers 2 and more|X=a Y=b|X=b Y=a", "ask 0 edge(X, Y).", "answers 0 and more",
		"ask 9 edge(_, Other), not node(Other).", "answers 1|_=a Other=b", "ask 0 node(a).", "answers 0 and more", "ask 9 node(zebra).", "answers 0", "ask 9 not node(zebra).", "answers 1|yes", "ask 9 1 < 2.", "answers 1|yes",
		"ask 9 new(X).", "answers 0", "ask 4096 node(X).", "answers 2|X=a|X=c", "ask 4097 node(X).", "fault 2 0 1 1", "ask 999999999 ?", "fault 2 0 1 1", "ask 4096 ?", "fault 10 0 1 1")
	want(t, s, "ask 1 ", "fault 21 0 1 1", "ask 1  ", "fault 21 0 1 2", "ask 1  node(X,", "fault 21 0 1 9", "ask 1 node(X). ", "answers 1 and more|X=a", "ask 1 node(X). node(a).", "fault 20 0 1 10",
		"ask 1 node.", "fault 30 0 1 1", "ask 1 node(a), not node(X).", "fault 33 0 1 19", "ask 1 1 node(X).", "fault 20 0 1 3", "ask 1 % node(X).", "fault 21 0 1 11",
		"ask 1 "+strings.Repeat(" ", 65537), "fault 1 0 0 0", "ask 4097 "+strings.Repeat(" ", 65537), "fault 2 0 0 0", "ask 1 node(a)."+strings.Repeat(" ", 65528), "answers 1|yes")
	text := told(`fact t("a b", -7, "\x00").`, "load")
	want(t, text, "ask 1 t(X, Y, Z).", `answers 1|X="a b" Y=-7 Z="\x00"`)
}

func TestWhy(t *testing.T) {
	s := told(paths...)
	want(t, s, "why edge(a, b)", "0: edge(a, b) given", "why path(a, b)", "error 50", "run max max", "done steps 10 fresh 7 live 12", "why path(a, b)", "0: edge(a, b) given|1: path(a, b) by 0 {a, b} from 0",
		"why lonely(c)", "0: node(c) given|1: lonely(c) by 2 {c} from 0", "why   lonely( c ) % c", "0: node(c) given|1: lonely(c) by 2 {c} from 0")
	want(t, s, "why", "fault 21 0 1 1", "why ", "fault 21 0 1 1", "why   ", "fault 21 0 1 3", "why lonely(c).", "fault 20 0 1 10", "why lonely(X)", "fault 20 0 1 8", "why ?", "fault 10 0 1 1", "why lonely", "error 50", "why never(1)", "error 50",
		"why "+strings.Repeat(" ", 65537), "fault 1 0 0 0", "why node(a)"+strings.Repeat(" ", 65529), "0: node(a) given")
}

func TestWhyNot(t *testing.T) {
	s := told(`rule p(X, Y) :- q(X), q(Y), X < Y, Y != "b c", not r(X), not r(Y). e :- not f.`, `fact q(1). q(a). q("b c"). r(a). r(1).`, "load")
	want(t, s, "whynot 0 1 a", "blocked 0 r(1)|blocked 1 r(a)", `whynot 0 a 1`, "fails 0|blocked 0 r(a)|blocked 1 r(1)", `whynot 0 "b c" 7`, "missing 1 q(7)|fails 0", `whynot 0 7 "b c"`, "missing 0 q(7)|fails 1",
		`whynot 0 "b c""b c"`, "fails 0|fails 1", "whynot 0 b /* x */ -5 % y", "missing 0 q(b)|missing 1 q(-5)|fails 0", "whynot 1", "nothing", "whynot 1 ", "nothing", "whynot 1   ", "nothing", "whynot 1 % x", "nothing",
		`whynot 0 "\n"   "\x41"`, `missing 0 q("\n")|missing 1 q("A")`, `whynot 0 "A" "\n"`, `missing 0 q("A")|missing 1 q("\n")|fails 0`, "whynot 0 1a b", "fault 13 0 1 1", "whynot 0 "+strings.Repeat("a", 65), "fault 14 0 1 1")
	want(t, s, "whynot 0", "error 2", "whynot 0 a", "error 2", "whynot 0 a b c", "error 2", "whynot 1 a", "error 2", "whynot 2", "error 50", "whynot 2 a", "error 50", "whynot 999999999", "error 50",
		"whynot 0 a X", "error 2", "whynot 0 a _", "error 2", "whynot 0 a not", "error 2", "whynot 0 a, b", "error 2", "whynot 0 (a b)", "error 2", "whynot 0 a b.", "error 2", "whynot 0 a < b", "error 2", "whynot 0 a :- b", "error 2", "whynot 9 X", "error 2",
		`whynot 0 a "b`, "fault 11 0 1 3", `whynot 0  X ?`, "fault 10 0 1 4", `whynot 9 ?`, "fault 10 0 1 1", "whynot 0 /*", "fault 16 0 1 1", "whynot 0 "+strings.Repeat(" ", 65537), "fault 1 0 0 0", "whynot 0 a b"+strings.Repeat(" ", 65533), "missing 1 q(b)|blocked 0 r(a)")
}

func TestSaveAndBack(t *testing.T) {
	s := told(paths...)
	want(t, s, "save", "", "run 1 max", "steps steps 1 fresh 1 live 8", "save", "", "run max max", "done steps 9 fresh 6 live 12", "save", "", "reset", "", "log", "", "show", "edge(a, b).|edge(b, a).|edge(b, c).|node(a).|node(c).",
		"back", "", "show", model, "reset", "", "back", "", "log", "new 0 path(a, b).", "run 1 max", "steps steps 1 fresh 1 live 9", "back", "", "log", "", "back", "error 50", "log", "", "run 1 max -1", "steps steps 1 fresh 1 live 8", "log", "new 0 path(b, c).")
	// The texts are no part of what is put by; what is put by outlives a load, not a new.
	want(t, s, "save", "", "fact node(d).", "", "load", strings.Replace(strings.Replace(strings.Replace(strings.Replace(loaded, "consts 3", "consts 4", 1), "facts 5", "facts 6", 1), "bound 39", "bound 84", 1), "tokens 42", "tokens 88", 1),
		"back", "", "ask 9 node(X).", "answers 2|X=a|X=c", "load", strings.Replace(strings.Replace(strings.Replace(strings.Replace(loaded, "consts 3", "consts 4", 1), "facts 5", "facts 6", 1), "bound 39", "bound 84", 1), "tokens 42", "tokens 88", 1),
		"ask 9 node(X).", "answers 3|X=a|X=c|X=d", "back", "error 50", "save", "", "new", "", "back", "error 50", "show", "error 53")
}

func TestNew(t *testing.T) {
	s := rested(t)
	want(t, s, "save", "", "new", "", "show", "error 53", "back", "error 50", "text", "", "fact a.", "", "load", "loaded rules 0 preds 1 consts 0 facts 1 strata 1 nodes 1 bound 0 tokens 0", "show", "a.", "new", "", "new", "", "load", "loaded rules 0 preds 0 consts 0 facts 0 strata 0 nodes 1 bound 0 tokens 0")
}

// P17.2: scripts

func TestScripts(t *testing.T) {
	wantRun(t, "", "")
	wantRun(t, "\n", "")
	wantRun(t, "back", "error 50\n")
	wantRun(t, "back\n", "error 50\n")
	wantRun(t, "\n\nback\n\n", "error 50\n")
	wantRun(t, "back\r\nback", "error 20\nerror 50\n")
	wantRun(t, "rule a.\nrule b.\ntext\ntext", "a.\nb.\na.\nb.\n")
	wantRun(t, "rule a.\n\n# c\nload\nshow\nnew\nshow", "loaded rules 0 preds 1 consts 0 facts 1 strata 1 nodes 1 bound 0 tokens 0\na.\nerror 53\n")
}

func TestLongScripts(t *testing.T) {
	wantRun(t, strings.Repeat("\n", 4096), "")
	wantRun(t, strings.Repeat("\n", 4097), "error 1\n")
	wantRun(t, strings.Repeat("\n", 4096)+"back", "error 1\n")
	wantRun(t, strings.Repeat("\n", 4095)+"back", "error 50\n")
	wantRun(t, strings.Repeat("\n", 4095)+"back\n", "error 50\n")
	wantRun(t, strings.Repeat("\n", 4095)+"back\n\n", "error 1\n")
	wantRun(t, strings.Repeat("back\n", 4096), strings.Repeat("error 50\n", 4096))
	wantRun(t, strings.Repeat("back\n", 4097), "error 1\n")
	wantRun(t, strings.Repeat("x", 100000), "error 20\n")
	// A shell by itself takes as many lines as there are.
	s := shell.New()
	for range 5000 {
		s.Line("back")
	}
	want(t, s, "back", "error 50")
}

func TestManyLinesOfText(t *testing.T) {
	wantRun(t, strings.Repeat("rule "+strings.Repeat("%", 100)+"\n", 4000)+"load\n", "fault 1 0 0 0\n")
}

// DOC.md's P1 and P5

func TestNilShell(t *testing.T) {
	var s *shell.Shell
	for _, line := range append([]string{"", "#", "a\nb", "run", "run 1 1", "rule a.", "ask 1 p.", "why p", "whynot 0", "what"}, noRest...) {
		if got := s.Line(line); len(got) > 0 {
			t.Errorf("a nil shell answers %q to %q", got, line)
		}
	}
}

func TestShellsAreTheirOwn(t *testing.T) {
	one, two := told(paths...), told("rule a.")
	want(t, one, "save", "", "run max max", "done steps 10 fresh 7 live 12")
	want(t, two, "show", "error 53", "back", "error 50", "text", "a.", "load", "loaded rules 0 preds 1 consts 0 facts 1 strata 1 nodes 1 bound 0 tokens 0", "new", "")
	want(t, one, "show", model, "back", "", "log", "")
}

// What Line answered may be written into.
func TestAnswersAreNewMemory(t *testing.T) {
	s := rested(t)
	for _, line := range []string{"show", "conflict", "log", "plan", "text", "ask 9 edge(X, Y).", "why path(a, a)", "whynot 2 b", "whynot 2 c", "load", "run 0 0", "what"} {
		first := s.Line(line)
		kept := strings.Join(first, "|")
		for num := range first {
			first[num] = "x"
		}
		_ = append(first[:0], make([]string, cap(first))...)
		if line != "load" && answer(s, line) != kept {
			t.Errorf("%q answers %q, and %q before", line, answer(s, line), kept)
		}
	}
}
