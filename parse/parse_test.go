package parse_test

import (
	"reflect"
	"strings"
	"sync"
	"testing"

	"edict/api"
	"edict/parse"
)

func num(n int64, off int) api.Term { return api.Term{Kind: api.KInt, Int: n, Off: off} }

func name(s string, off int) api.Term { return api.Term{Kind: api.KName, Text: s, Off: off} }

func text(s string, off int) api.Term { return api.Term{Kind: api.KText, Text: s, Off: off} }

func variable(s string, off int) api.Term { return api.Term{Kind: api.KVar, Text: s, Off: off} }

func atom(off int, pred string, args ...api.Term) api.Atom {
	return api.Atom{Pred: pred, Args: args, Off: off}
}

func pos(a api.Atom) api.Literal { return api.Literal{Kind: api.LPos, Atom: a, Off: a.Off} }

func neg(off int, a api.Atom) api.Literal { return api.Literal{Kind: api.LNeg, Atom: a, Off: off} }

func test(op int, left, right api.Term) api.Literal {
	return api.Literal{Kind: api.LTest, Op: op, Left: left, Right: right, Off: left.Off}
}

func clause(head api.Atom, body ...api.Literal) api.Clause {
	return api.Clause{Head: head, Body: body}
}

// short keeps a failed test's telling within bounds.
func short(s string) string {
	if len(s) > 80 {
		return s[:80] + ".."
	}
	return s
}

// same is equality where an empty list and nil are one.
func same(a, b any) bool { return alike(reflect.ValueOf(a), reflect.ValueOf(b)) }

func alike(a, b reflect.Value) bool {
	switch a.Kind() {
	case reflect.Slice:
		if a.Len() != b.Len() {
			return false
		}
		for i := range a.Len() {
			if !alike(a.Index(i), b.Index(i)) {
				return false
			}
		}
		return true
	case reflect.Struct:
		for i := range a.NumField() {
			if !alike(a.Field(i), b.Field(i)) {
				return false
			}
		}
		return true
	}
	return a.Equal(b)
}

// A call is one of the four, its answer as any.
type call struct {
	name string
	do   func(string) (any, api.Fault)
	zero any
}

var (
	program = call{"Program", func(s string) (any, api.Fault) { a, f := parse.Program(s); return a, f }, api.Program{}}
	facts   = call{"Facts", func(s string) (any, api.Fault) { a, f := parse.Facts(s); return a, f }, []api.Atom{}}
	query   = call{"Query", func(s string) (any, api.Fault) { a, f := parse.Query(s); return a, f }, []api.Literal{}}
	fact    = call{"Fact", func(s string) (any, api.Fault) { a, f := parse.Fact(s); return a, f }, api.Fact{}}
)

func (c call) want(t *testing.T, src string, want any) {
	t.Helper()
	got, f := c.do(src)
	if f != (api.Fault{}) || !same(got, want) {
		t.Errorf("%s(%q) = %.500v, %v; want %.500v", c.name, short(src), got, f, want)
	}
}

// right: the text is taken, whatever comes of it.
func (c call) right(t *testing.T, srcs ...string) {
	t.Helper()
	for _, src := range srcs {
		if _, f := c.do(src); f != (api.Fault{}) {
			t.Errorf("%s(%q): fault %v; want none", c.name, short(src), f)
		}
	}
}

func (c call) refused(t *testing.T, src string, code api.Errno, off int) {
	t.Helper()
	got, f := c.do(src)
	if f != (api.Fault{Code: code, Off: off}) || !same(got, c.zero) {
		t.Errorf("%s(%q) = %.500v, %v; want nothing and %d at %d", c.name, short(src), got, f, code, off)
	}
}

// refusedAt: the text's one ^ shows where the fault is, and is no part of it.
func (c call) refusedAt(t *testing.T, code api.Errno, srcs ...string) {
	t.Helper()
	for _, src := range srcs {
		ahead, from, found := strings.Cut(src, "^")
		if !found || strings.Contains(from, "^") {
			t.Fatalf("%q does not show its fault", src)
		}
		c.refused(t, ahead+from, code, len(ahead))
	}
}

func programOf(cs ...api.Clause) api.Program { return api.Program{Clauses: cs} }

// The examples of chapter 3, by their numbers.

func TestExamples(t *testing.T) {
	program.want(t, "", programOf())                                      // 1
	program.want(t, "p.", programOf(clause(atom(0, "p"))))                // 2
	program.want(t, "a:-b,not c(X),X<=3.", programOf(clause(atom(0, "a"), // 3
		pos(atom(3, "b")), neg(5, atom(9, "c", variable("X", 11))), test(api.OpLe, variable("X", 14), num(3, 17)))))
	program.refused(t, "p(1).\np(", api.ErrEnd, 8)    // 4
	facts.refused(t, "p(1). p(X).", api.ErrSyntax, 8) // 5
	facts.refused(t, "p(1). q", api.ErrEnd, 7)
	query.want(t, "a = b, not c.", []api.Literal{test(api.OpEq, name("a", 0), name("b", 4)), neg(7, atom(11, "c"))}) // 6
	query.refused(t, "a. b.", api.ErrSyntax, 3)                                                                      // 7
	program.refused(t, "p(1,2,3,4,5,6,7,8,9).", api.ErrArity, 18)                                                    // 8
	program.refused(t, "p(1,2,3,4,5,6,7,8,).", api.ErrSyntax, 18)
	program.refused(t, "p(a) = b.", api.ErrSyntax, 5) // 9
	program.refused(t, "q :- p(a) = b.", api.ErrSyntax, 10)
	program.refused(t, "p :- X.", api.ErrSyntax, 6)                                                                                 // 10
	fact.want(t, "p(1, \"a b\")", api.Fact{Pred: "p", Args: []api.Const{{Kind: api.KInt, Int: 1}, {Kind: api.KText, Text: "a b"}}}) // 11
	fact.refused(t, "p(1).", api.ErrSyntax, 4)
	fact.refused(t, "p q", api.ErrSyntax, 2)
	program.refused(t, "p q ? r.", api.ErrSyntax, 2) // 12
	program.refused(t, "p ? q.", api.ErrByte, 2)
}

// P3.1

func TestProgramFields(t *testing.T) {
	program.want(t, " p ( X,_ , _a ) . % c\n q( -7,007, x1 ,\"\\x41\\n\" ).", programOf(
		clause(atom(1, "p", variable("X", 5), variable("_", 7), variable("_a", 11))),
		clause(atom(23, "q", num(-7, 26), num(7, 29), name("x1", 34), text("A\n", 38)))))
	program.want(t, "p :- q, r(Y) , not s , not t(1,a).", programOf(clause(atom(0, "p"),
		pos(atom(5, "q")), pos(atom(8, "r", variable("Y", 10))), neg(15, atom(19, "s")), neg(23, atom(27, "t", num(1, 29), name("a", 31))))))
	program.want(t, "edge(a, b).\npath(X, Z) :- path(X, Y), edge(Y, Z).", programOf(
		clause(atom(0, "edge", name("a", 5), name("b", 8))),
		clause(atom(12, "path", variable("X", 17), variable("Z", 20)),
			pos(atom(26, "path", variable("X", 31), variable("Y", 34))), pos(atom(38, "edge", variable("Y", 43), variable("Z", 46))))))
	program.want(t, "p:-not/**/q.", programOf(clause(atom(0, "p"), neg(3, atom(10, "q")))))
}

func TestProgramOfNothing(t *testing.T) {
	for _, src := range []string{"", " ", "% p.", "/* p. */", "\n\t\r ", " % nothing\n /* at all */"} {
		program.want(t, src, programOf())
		facts.want(t, src, []api.Atom{})
	}
}

func TestTests(t *testing.T) {
	for spelling, op := range map[string]int{"=": api.OpEq, "!=": api.OpNe, "<": api.OpLt, "<=": api.OpLe, ">": api.OpGt, ">=": api.OpGe} {
		at := 1 + len(spelling)
		for left, l := range map[string]api.Term{"X": variable("X", 0), "_": variable("_", 0), "a": name("a", 0), "5": num(5, 0)} {
			for right, r := range map[string]api.Term{"Y": variable("Y", at), "_": variable("_", at), "b": name("b", at), "-9": num(-9, at), "\"\"": text("", at)} {
				query.want(t, left+spelling+right+".", []api.Literal{test(op, l, r)})
			}
		}
	}
	query.want(t, "\"a\" = a.", []api.Literal{test(api.OpEq, text("a", 0), name("a", 6))})
	query.want(t, "a=a,a,a(a).", []api.Literal{test(api.OpEq, name("a", 0), name("a", 2)), pos(atom(4, "a")), pos(atom(6, "a", name("a", 8)))})
}

func TestFactsFields(t *testing.T) {
	facts.want(t, "p(1). q.\np(a,\"b\"). q.", []api.Atom{
		atom(0, "p", num(1, 2)), atom(6, "q"), atom(9, "p", name("a", 11), text("b", 13)), atom(19, "q")})
	facts.want(t, "/* a */p . % end", []api.Atom{atom(7, "p")})
}

func TestQueryFields(t *testing.T) {
	query.want(t, "not a.", []api.Literal{neg(0, atom(4, "a"))})
	query.want(t, " a. % end", []api.Literal{pos(atom(1, "a"))})
	query.want(t, "apart(X, Y), X < Y.", []api.Literal{pos(atom(0, "apart", variable("X", 6), variable("Y", 9))), test(api.OpLt, variable("X", 13), variable("Y", 17))})
}

func TestFactFields(t *testing.T) {
	fact.want(t, "p", api.Fact{Pred: "p"})
	fact.want(t, " p /* . */ ", api.Fact{Pred: "p"})
	fact.want(t, "p(-9223372036854775808,a,\"a\",\"\")", api.Fact{Pred: "p", Args: []api.Const{
		{Kind: api.KInt, Int: -1 << 63}, {Kind: api.KName, Text: "a"}, {Kind: api.KText, Text: "a"}, {Kind: api.KText}}})
}

func TestLongestWordsAndTexts(t *testing.T) {
	word := strings.Repeat("n", api.MaxName)
	long := strings.Repeat("\xff", api.MaxText)
	program.want(t, word+"(V"+word[1:]+",\""+long+"\").", programOf(clause(atom(0, word, variable("V"+word[1:], api.MaxName+1), text(long, 2*api.MaxName+2)))))
}

// The edges

func TestVariablesInFacts(t *testing.T) {
	program.want(t, "p(X).", programOf(clause(atom(0, "p", variable("X", 2)))))
	facts.refusedAt(t, api.ErrSyntax, "p(^X).", "p(^_).", "p(a,^X).", "p(a, 1). q(b, ^_x).", "^X.", "^_")
	fact.refusedAt(t, api.ErrSyntax, "p(^X)", "p(^_)", "p(a,^X)", "^X", "^_")
}

func TestSyntaxEdges(t *testing.T) {
	program.refusedAt(t, api.ErrSyntax, "p(^).", "p(a,^).", "p(a ^b).", "p :- ^.", "^not a.")
	query.want(t, "not a.", []api.Literal{neg(0, atom(4, "a"))})
	query.refusedAt(t, api.ErrSyntax, "not ^not a.", "a = b ^= c.")
	facts.refusedAt(t, api.ErrSyntax, "p(^).", "p(a,^).", "p(a ^b).", "p ^:- q.", "^not a.")
	fact.refusedAt(t, api.ErrSyntax, "p(^)", "p(a,^)", "p(a ^b)", "p ^:- q", "^not a", "p^.", "p^,q")
}

func TestSameVariableTwice(t *testing.T) {
	program.want(t, "p(X,X,_,_):-q(X,_),X=_.", programOf(clause(
		atom(0, "p", variable("X", 2), variable("X", 4), variable("_", 6), variable("_", 8)),
		pos(atom(12, "q", variable("X", 14), variable("_", 16))), test(api.OpEq, variable("X", 19), variable("_", 21)))))
}

func TestWhatStandsTwice(t *testing.T) {
	program.want(t, "p. p. p:-q,q. p:-q,q.", programOf(clause(atom(0, "p")), clause(atom(3, "p")),
		clause(atom(6, "p"), pos(atom(9, "q")), pos(atom(11, "q"))), clause(atom(14, "p"), pos(atom(17, "q")), pos(atom(19, "q")))))
	facts.want(t, "p.p.", []api.Atom{atom(0, "p"), atom(2, "p")})
	query.want(t, "p,p,X=X,X=X.", []api.Literal{pos(atom(0, "p")), pos(atom(2, "p")),
		test(api.OpEq, variable("X", 4), variable("X", 6)), test(api.OpEq, variable("X", 8), variable("X", 10))})
}

// Arities over several atoms, variables that nothing binds, strata: no business of this layer.
func TestNotThisLayersBusiness(t *testing.T) {
	program.right(t, "p. p(1). p(1,2).", "p(X) :- not q(Y), Z < 1.", "p :- not p.", "p :- 1 = 2.", "p(A,B,C,D,E,F,G,H) :- q(I,J,K,L,M,N,O,P), r(Q).")
	facts.right(t, "p. p(1).")
	query.right(t, "p(X), p, not q(Y), Z = 1.")
}

func TestTextThatEnds(t *testing.T) {
	program.refusedAt(t, api.ErrEnd, "p^", "p(^", "p(a^", "p(a,^", "p(a)^", "p :-^", "p :- q^", "p :- q,^", "p :- not^", "p :- not q^", "p :- q(^", "p :- X^",
		"p :- X <^", "p :- X < 1^", "p :- q(1)^", "p. q^", "p % .^", "p /* . */ ^")
	facts.refusedAt(t, api.ErrEnd, "p^", "p(^", "p(a^", "p(a,^", "p(a)^", "p. q^", "p % .\n ^")
	query.refusedAt(t, api.ErrEnd, "^", " ^", "% a.^", "a^", "a,^", "not^", "not a^", "1^", "1 =^", "1 = 2^", "a(^", "a(1^", "a(1,^", "a(1)^")
	fact.refusedAt(t, api.ErrEnd, "^", "/**/^", "p(^", "p(1^", "p(1,^")
}

// P3.2: the length is the first

func TestLongTexts(t *testing.T) {
	for _, c := range []call{program, facts, query, fact} {
		for _, b := range []string{" ", "?", "a", "\"", "p.", "%"} {
			c.refused(t, strings.Repeat(b, api.MaxSource)[:api.MaxSource]+"x", api.ErrLong, 0)
		}
		c.refused(t, "p. q."+strings.Repeat(" ", api.MaxSource-4), api.ErrLong, 0)
		c.refused(t, strings.Repeat("?", api.MaxSource), api.ErrByte, 0)
		c.refused(t, strings.Repeat("x", api.MaxSource), api.ErrName, 0)
	}
	pad := func(src string) string { return src + strings.Repeat(" ", api.MaxSource-len(src)) }
	program.want(t, pad("p."), programOf(clause(atom(0, "p"))))
	facts.want(t, pad("p."), []api.Atom{atom(0, "p")})
	query.want(t, pad("p."), []api.Literal{pos(atom(0, "p"))})
	fact.want(t, pad("p"), api.Fact{Pred: "p"})
	program.refused(t, pad("p"), api.ErrEnd, api.MaxSource)
	query.refused(t, pad(""), api.ErrEnd, api.MaxSource)
}

// P3.2, 1: where there is no token, lex's code and offset

func TestFaultsOfLex(t *testing.T) {
	for _, f := range []struct {
		spelling string
		code     api.Errno
		off      int
	}{
		{"?", api.ErrByte, 0}, {":", api.ErrByte, 0}, {"-", api.ErrByte, 0}, {"\x00", api.ErrByte, 0}, {"\"a", api.ErrQuote, 0}, {"\"a\n\"", api.ErrQuote, 0},
		{"\"a\\q\"", api.ErrEscape, 2}, {"12ab", api.ErrInt, 0}, {"9223372036854775808", api.ErrInt, 0},
		{strings.Repeat("a", api.MaxName+1), api.ErrName, 0}, {"\"" + strings.Repeat("a", api.MaxText+1), api.ErrText, 0}, {"/* /* */", api.ErrComment, 0},
	} {
		for _, ahead := range []string{"", " % c\n", "p ", "p(", "p(a ", "p(a,", "p(1,2,3,4,5,6,7,8,", "p(a) ", "p(a). ", "p.", "p. q(1) ", strings.Repeat("p.", api.MaxClauses)} {
			program.refused(t, ahead+f.spelling, f.code, len(ahead)+f.off)
			facts.refused(t, ahead+f.spelling, f.code, len(ahead)+f.off)
		}
		for _, ahead := range []string{"", "a ", "a,", "not ", "not a ", "X ", "1 ", "a<", "a=X ", "a(", "a(X ", "a(X,", "a(X)", "a. ", strings.Repeat("a,", api.MaxBody)} {
			query.refused(t, ahead+f.spelling, f.code, len(ahead)+f.off)
			if ahead != "a. " {
				program.refused(t, "p :- "+ahead+f.spelling, f.code, 5+len(ahead)+f.off)
			}
		}
		for _, ahead := range []string{"", "p ", "p(", "p(a ", "p(a,", "p(a) "} {
			fact.refused(t, ahead+f.spelling, f.code, len(ahead)+f.off)
		}
	}
}

// P3.2: what lies behind the first fault is of no account

func TestFirstFaultAlone(t *testing.T) {
	for _, behind := range []string{"", "?", " ?", " \"a", " /* ", " q", " )", " 12ab", " " + strings.Repeat("a", 65), " 1,2,3,4,5,6,7,8,9"} {
		program.refused(t, "p q"+behind+" ?", api.ErrSyntax, 2)
		program.refused(t, "p(1,2,3,4,5,6,7,8,9"+" "+behind, api.ErrArity, 18)
		program.refused(t, "p:-"+strings.Repeat("q,", api.MaxBody)+"q "+behind, api.ErrBody, 3+2*api.MaxBody)
		program.refused(t, "p:-"+strings.Repeat("q,", api.MaxBody)+"not "+behind, api.ErrBody, 3+2*api.MaxBody)
		program.refused(t, "p:-"+strings.Repeat("q,", api.MaxBody)+"X "+behind, api.ErrBody, 3+2*api.MaxBody)
		program.refused(t, strings.Repeat("p.", api.MaxClauses)+"p "+behind, api.ErrClauses, 2*api.MaxClauses)
		facts.refused(t, strings.Repeat("p.", api.MaxFacts)+"p "+behind, api.ErrClauses, 2*api.MaxFacts)
		facts.refused(t, "p :- "+behind, api.ErrSyntax, 2)
		query.refused(t, "a. b"+" "+behind, api.ErrSyntax, 3)
		fact.refused(t, "p ."+behind, api.ErrSyntax, 2)
	}
}

// P3.2, 3: the limits. spellings has one of each kind.

var spellings = []struct {
	kind     int
	spelling string
}{
	{api.TName, "n"}, {api.TVar, "V"}, {api.TInt, "-7"}, {api.TText, "\"t\""}, {api.TLParen, "("}, {api.TRParen, ")"}, {api.TComma, ","},
	{api.TDot, "."}, {api.TArrow, ":-"}, {api.TNot, "not"}, {api.TOp, "<="},
}

// judged: behind a text whose next thing would be one too many, a token that could begin it is refused by the limit's code,
// any other as misplaced.
func judged(t *testing.T, c call, ahead string, code api.Errno, could ...int) {
	t.Helper()
	for _, s := range spellings {
		want := api.ErrSyntax
		for _, k := range could {
			if k == s.kind {
				want = code
			}
		}
		c.refused(t, ahead+s.spelling, want, len(ahead))
		c.refused(t, ahead+" "+s.spelling+" ) ?", want, len(ahead)+1)
	}
	c.refused(t, ahead+"?", api.ErrByte, len(ahead))
}

func TestClauseLimit(t *testing.T) {
	for _, one := range []string{"p.", "p(1,2,3,4,5,6,7,8).", "p:-q,r.", "p(X):-q(X,Y),not r(a,b),X<Y.\n"} {
		most := strings.Repeat(one, api.MaxClauses)
		if got, f := parse.Program(most); f != (api.Fault{}) || len(got.Clauses) != api.MaxClauses {
			t.Errorf("%d times %q: %d clauses, %v", api.MaxClauses, one, len(got.Clauses), f)
		}
		judged(t, program, most, api.ErrClauses, api.TName)
	}
}

func TestFactLimit(t *testing.T) {
	for _, one := range []string{"p.", "p(1,a,\"\")."} {
		most := strings.Repeat(one, api.MaxFacts)
		if got, f := parse.Facts(most); f != (api.Fault{}) || len(got) != api.MaxFacts {
			t.Errorf("%d times %q: %d facts, %v", api.MaxFacts, one, len(got), f)
		}
		judged(t, facts, most, api.ErrClauses, api.TName)
	}
}

func TestBodyLimit(t *testing.T) {
	for _, one := range []string{"q,", "not q,", "X<1,", "q(1,2,3,4,5,6,7,8),", "not q(X,Y,Z),", "a=b,"} {
		for _, in := range []struct {
			call
			ahead string
		}{{query, ""}, {program, "p:-"}, {program, "p(1,2):-"}, {program, "p:-" + strings.Repeat("q,", api.MaxBody-1) + "q.p:-"}} {
			most := in.ahead + strings.Repeat(one, api.MaxBody)
			in.right(t, strings.TrimSuffix(most, ",")+".")
			in.refused(t, most, api.ErrEnd, len(most))
			judged(t, in.call, most, api.ErrBody, api.TName, api.TNot, api.TVar, api.TInt, api.TText)
		}
	}
}

func TestArityLimit(t *testing.T) {
	terms := []int{api.TName, api.TVar, api.TInt, api.TText}
	values := []int{api.TName, api.TInt, api.TText}
	for _, in := range []struct {
		call
		ahead, term, behind string
		could               []int
	}{
		{program, "p(", "X", ").", terms}, {program, "p(1,2,3,4,5,6,7,8):-p(", "_", ").", terms}, {program, "p:-not p(", "a", ").", terms},
		{program, "p:-q(1,2,3,4,5,6,7,8),X=1,p(", "7", ").", terms}, {query, "p(", "\"\"", ").", terms}, {query, "a=b,not p(", "X", ").", terms},
		{facts, "p(", "a", ").", values}, {facts, "p(1,2,3,4,5,6,7,8).p(", "1", ").", values}, {fact, "p(", "\"\"", ")", values},
	} {
		most := in.ahead + strings.Repeat(in.term+",", api.MaxArity)
		in.right(t, strings.TrimSuffix(most, ",")+in.behind)
		in.refused(t, most, api.ErrEnd, len(most))
		judged(t, in.call, most, api.ErrArity, in.could...)
	}
}

func TestLimitsCountApart(t *testing.T) {
	// Tests' terms are no terms of an atom; literals, clauses and facts are counted where they stand.
	program.right(t, "p:-"+strings.Repeat("X<Y,", api.MaxBody-1)+"X<Y.")
	facts.right(t, strings.Repeat("p.", api.MaxClauses+1))
	full := "p(1,2,3,4,5,6,7,8)"
	program.right(t, strings.Repeat(full+":-"+strings.Repeat(full+",", api.MaxBody-1)+full+".", 200))
}

// P3.4

// lists gathers the memory of every list in an answer, its spare room too: from where up to where.
func lists(v reflect.Value, out [][2]uintptr) [][2]uintptr {
	switch v.Kind() {
	case reflect.Slice:
		if size := uintptr(v.Cap()) * v.Type().Elem().Size(); size > 0 {
			out = append(out, [2]uintptr{v.Pointer(), v.Pointer() + size})
		}
		for i := range v.Len() {
			out = lists(v.Index(i), out)
		}
	case reflect.Struct:
		for i := range v.NumField() {
			out = lists(v.Field(i), out)
		}
	}
	return out
}

func TestNewMemory(t *testing.T) {
	for _, c := range []struct {
		call
		src   string
		lists int
	}{
		{program, "p(a,b,c):-q(a,b,c),r(c),not s(X),X=1. s(d). t. u(1):-v.", 9}, {facts, "p(a,b,c). q. r(1). r(1).", 4},
		{query, "p(a,b,c), not p(a,b,c,d,e), X = X, q, q(1).", 4}, {fact, "p(a,1,\"b\")", 1},
	} {
		one, _ := c.do(c.src)
		two, _ := c.do(c.src)
		all := lists(reflect.ValueOf(one), nil)
		if len(all) != c.lists {
			t.Errorf("%s(%q) has %d lists, want %d", c.name, c.src, len(all), c.lists)
		}
		all = lists(reflect.ValueOf(two), all)
		for i, a := range all {
			for _, b := range all[:i] {
				if a[0] < b[1] && b[0] < a[1] {
					t.Errorf("%s(%q): two lists share memory", c.name, c.src)
				}
			}
		}
	}
}

func TestNothingIsKept(t *testing.T) {
	srcs := []string{"p(X):-q(X),not r.", "p(1).", "p", "p(", "?", "", "a = b.", "p(1,2,3,4,5,6,7,8,9).", strings.Repeat(" ", api.MaxSource+1), "p q", "not a."}
	calls := []call{program, facts, query, fact}
	type answer struct {
		value any
		fault api.Fault
	}
	first := map[string]answer{}
	for _, c := range calls {
		for _, src := range srcs {
			v, f := c.do(src)
			first[c.name+src] = answer{v, f}
		}
	}
	var all sync.WaitGroup
	for range 4 {
		all.Add(1)
		go func() {
			defer all.Done()
			for i := range 40 * len(srcs) {
				c, src := calls[i*7%len(calls)], srcs[i*5%len(srcs)]
				v, f := c.do(src)
				if want := first[c.name+src]; f != want.fault || !same(v, want.value) {
					t.Errorf("%s(%q) = %v, %v; at first %v", c.name, short(src), v, f, want)
				}
			}
		}()
	}
	all.Wait()
}
