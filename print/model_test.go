package print_test

import (
	"fmt"
	"math"
	"math/rand"
	"regexp"
	"slices"
	"strings"
	"testing"

	"edict/api"
	"edict/lex"
	"edict/parse"
	"edict/print"
)

// The model of chapter 4 that the tests hold print against: it gathers all reasons in the chapter's order, and is written apart
// from the program and from sym.

var (
	aName = regexp.MustCompile(`\A[a-z][a-zA-Z0-9_]{0,63}\z`)
	aVar  = regexp.MustCompile(`\A[A-Z_][a-zA-Z0-9_]{0,63}\z`)
)

// reasons are all that speak against a thing, in the chapter's order.
type reasons []api.Errno

func (r *reasons) unless(fine bool, reason api.Errno) {
	if !fine {
		*r = append(*r, reason)
	}
}

func isName(s string) bool { return aName.MatchString(s) && s != "not" }

func isConst(kind int, n int64, s string) bool {
	switch kind {
	case 1:
		return s == ""
	case 2:
		return n == 0 && isName(s)
	case 3:
		return n == 0 && len(s) <= 255
	}
	return false
}

func (r *reasons) term(t api.Term) {
	if t.Kind == 4 {
		r.unless(t.Int == 0 && aVar.MatchString(t.Text), api.ErrName)
	} else {
		r.unless(isConst(t.Kind, t.Int, t.Text), api.ErrConst)
	}
}

func (r *reasons) atom(a api.Atom) {
	r.unless(isName(a.Pred), api.ErrName)
	r.unless(len(a.Args) <= 8, api.ErrArity)
	for _, t := range a.Args {
		r.term(t)
	}
}

func (r *reasons) literal(l api.Literal) {
	l.Left.Off, l.Right.Off = 0, 0
	r.unless(l.Kind >= 1 && l.Kind <= 3, api.ErrArg)
	if l.Kind == 3 {
		r.unless(l.Op >= 1 && l.Op <= 6, api.ErrArg)
		r.unless(l.Atom.Pred == "" && len(l.Atom.Args) == 0, api.ErrArg)
		r.term(l.Left)
		r.term(l.Right)
	} else {
		r.unless(l.Op == 0 && l.Left == api.Term{} && l.Right == api.Term{}, api.ErrArg)
		r.atom(l.Atom)
	}
}

func (r *reasons) body(ls []api.Literal) {
	r.unless(len(ls) <= 16, api.ErrBody)
	for _, l := range ls {
		r.literal(l)
	}
}

func (r *reasons) clause(c api.Clause) {
	r.atom(c.Head)
	r.body(c.Body)
}

func (r *reasons) program(p api.Program) {
	r.unless(len(p.Clauses) <= 512, api.ErrClauses)
	for _, c := range p.Clauses {
		r.clause(c)
	}
}

func (r *reasons) fact(f api.Fact) {
	r.unless(isName(f.Pred), api.ErrName)
	r.unless(len(f.Args) <= 8, api.ErrArity)
	for _, c := range f.Args {
		r.unless(isConst(c.Kind, c.Int, c.Text), api.ErrConst)
	}
}

func modelTerm(t api.Term) string {
	switch t.Kind {
	case 1:
		return fmt.Sprint(t.Int)
	case 3:
		return modelText(t.Text)
	}
	return t.Text
}

func modelText(s string) string {
	out := `"`
	for _, b := range []byte(s) {
		if short := strings.IndexByte("\"\\\n\t\r", b); short >= 0 {
			out += `\` + `"\ntr`[short:short+1]
		} else if b >= 0x20 && b <= 0x7e {
			out += string(rune(b))
		} else {
			out += fmt.Sprintf(`\x%02x`, b)
		}
	}
	return out + `"`
}

func modelAtom(a api.Atom) string {
	var args []string
	for _, t := range a.Args {
		args = append(args, modelTerm(t))
	}
	return strings.TrimSuffix(a.Pred+"("+strings.Join(args, ", ")+")", "()")
}

func modelLiteral(l api.Literal) string {
	switch l.Kind {
	case 1:
		return modelAtom(l.Atom)
	case 2:
		return "not " + modelAtom(l.Atom)
	}
	return fmt.Sprintf("%s %s %s", modelTerm(l.Left), strings.Fields("- = != < <= > >=")[l.Op], modelTerm(l.Right))
}

func modelQuery(ls []api.Literal) string {
	var parts []string
	for _, l := range ls {
		parts = append(parts, modelLiteral(l))
	}
	return strings.Join(parts, ", ") + "."
}

func modelClause(c api.Clause) string {
	if len(c.Body) == 0 {
		return modelAtom(c.Head) + "."
	}
	return modelAtom(c.Head) + " :- " + modelQuery(c.Body)
}

func modelProgram(p api.Program) string {
	out := ""
	for _, c := range p.Clauses {
		out += modelClause(c) + "\n"
	}
	return out
}

func modelFact(f api.Fact) string {
	a := api.Atom{Pred: f.Pred}
	for _, c := range f.Args {
		a.Args = append(a.Args, api.Term{Kind: c.Kind, Int: c.Int, Text: c.Text})
	}
	return modelAtom(a)
}

// hold holds a call's answer against the model's, which is the text where nothing speaks against the thing.
func hold[T any](t *testing.T, x T, call func(T) string, look func(*reasons, T), model func(T) string) bool {
	t.Helper()
	var r reasons
	look(&r, x)
	whole := ""
	if len(r) == 0 {
		whole = model(x)
	}
	if got := call(x); got != whole && !t.Failed() {
		t.Errorf("%.300v: %q; want %q", x, short(got), short(whole))
	}
	return len(r) == 0
}

func holdTerm(t *testing.T, x api.Term) bool {
	t.Helper()
	return hold(t, x, print.Term, (*reasons).term, modelTerm)
}

func holdAtom(t *testing.T, x api.Atom) bool {
	t.Helper()
	return hold(t, x, print.Atom, (*reasons).atom, modelAtom)
}

func holdLiteral(t *testing.T, x api.Literal) bool {
	t.Helper()
	return hold(t, x, print.Literal, (*reasons).literal, modelLiteral)
}

func holdQuery(t *testing.T, x []api.Literal) bool {
	t.Helper()
	look := func(r *reasons, ls []api.Literal) {
		r.unless(len(ls) > 0, api.ErrEnd)
		r.body(ls)
	}
	return hold(t, x, print.Query, look, modelQuery)
}

func holdClause(t *testing.T, x api.Clause) bool {
	t.Helper()
	return hold(t, x, print.Clause, (*reasons).clause, modelClause)
}

func holdFact(t *testing.T, x api.Fact) bool {
	t.Helper()
	return hold(t, x, print.Fact, (*reasons).fact, modelFact)
}

func holdFacts(t *testing.T, x []api.Fact) bool {
	t.Helper()
	look := func(r *reasons, fs []api.Fact) {
		for _, f := range fs {
			r.fact(f)
		}
	}
	model := func(fs []api.Fact) string {
		out := ""
		for _, f := range fs {
			out += modelFact(f) + ".\n"
		}
		return out
	}
	return hold(t, x, print.Facts, look, model)
}

func holdProgram(t *testing.T, x api.Program) bool {
	t.Helper()
	var r reasons
	r.program(x)
	if got, first := print.Well(x), append(r, api.OK)[0]; got != first && !t.Failed() {
		t.Errorf("Well(%.300v) = %d; want %d", x, got, first)
	}
	return hold(t, x, print.Program, (*reasons).program, modelProgram)
}

var (
	someKinds = []int{math.MinInt, -1, 0, api.KInt, api.KName, api.KText, api.KVar, 5, math.MaxInt}
	someInts  = []int64{math.MinInt64, -1, 0, 1, math.MaxInt64}
	someTexts = []string{"", "a", "X", "_", "not", "nothing", "Not", "a b", "a9_", "9", "X1", "_9", "a\n", "é", "\xff", strings.Repeat("a", 64), strings.Repeat("a", 65), "X" + strings.Repeat("a", 63), "X" + strings.Repeat("a", 64), strings.Repeat("\n", 255), strings.Repeat("\n", 256)}
)

// Every field's odd and even values, together.
func TestAllTerms(t *testing.T) {
	for _, kind := range someKinds {
		for _, n := range someInts {
			for _, s := range someTexts {
				x := api.Term{Kind: kind, Int: n, Text: s, Off: len(s)}
				holdTerm(t, x)
				holdAtom(t, atom(s, x))
				holdLiteral(t, pos(atom("p", num(1), x)))
				holdFact(t, fact("p", x, x))
				holdFact(t, fact(s, x))
				holdProgram(t, programOf(clause(atom("p", x)), clause(atom(s))))
			}
		}
	}
}

func TestAllLiterals(t *testing.T) {
	terms := []api.Term{{}, {Off: 1}, num(0), num(1), name("a"), name("A"), variable("X"), variable("x"), text(""), {Int: 1}, {Text: "X"}, {Kind: 5}}
	atoms := []api.Atom{{}, {Off: 1}, atom("p"), atom("P"), atom("p", num(1)), atom("", num(1)), atom("p", variable("x")), atom("p", name("X")), atom("p", make([]api.Term, 9)...)}
	for _, kind := range []int{math.MinInt, -1, 0, 1, 2, 3, 4, math.MaxInt} {
		for _, op := range []int{math.MinInt, -1, 0, 1, 2, 3, 4, 5, 6, 7, math.MaxInt} {
			for _, a := range atoms {
				for _, left := range terms {
					for _, right := range terms {
						l := api.Literal{Kind: kind, Atom: a, Op: op, Left: left, Right: right, Off: -op}
						holdLiteral(t, l)
						holdProgram(t, programOf(clause(atom("p"), l)))
					}
				}
			}
		}
	}
}

// Random things: well formed ones, and such with a few fields broken.

type maker struct{ *rand.Rand }

func pick[T any](m maker, from []T) T { return from[m.Intn(len(from))] }

// some is a number from least to most, the two more often than those between.
func (m maker) some(least, most int) int {
	switch m.Intn(8) {
	case 0:
		return least
	case 1:
		return most
	}
	return least + m.Intn(most-least+1)
}

func (m maker) word(first string) string {
	const others = "abzABZ019_"
	out := []byte{first[m.Intn(len(first))]}
	for range pick(m, []int{0, 1, 2, 7, 63}) {
		out = append(out, others[m.Intn(len(others))])
	}
	return string(out)
}

func (m maker) name() string {
	if s := m.word("anoz"); s != "not" {
		return s
	}
	return "nota"
}

func (m maker) constant() api.Const {
	switch m.Intn(3) {
	case 0:
		return api.Const{Kind: api.KInt, Int: pick(m, []int64{math.MinInt64, -10, -1, 0, 1, 42, math.MaxInt64, int64(m.Uint64())})}
	case 1:
		return api.Const{Kind: api.KName, Text: m.name()}
	}
	bytes := make([]byte, pick(m, []int{0, 1, 2, 9, 30}))
	m.Read(bytes)
	return api.Const{Kind: api.KText, Text: string(bytes)}
}

func (m maker) term() api.Term {
	if m.Intn(3) == 0 {
		return api.Term{Kind: api.KVar, Text: m.word("AXZ_"), Off: m.Int()}
	}
	c := m.constant()
	return api.Term{Kind: c.Kind, Int: c.Int, Text: c.Text, Off: -m.Int()}
}

func (m maker) atom() api.Atom {
	a := api.Atom{Pred: m.name(), Off: m.Int()}
	for range m.some(0, api.MaxArity) {
		a.Args = append(a.Args, m.term())
	}
	return a
}

func (m maker) literal() api.Literal {
	l := api.Literal{Kind: 1 + m.Intn(3), Off: m.Int()}
	if l.Kind == api.LTest {
		l.Op, l.Left, l.Right = 1+m.Intn(6), m.term(), m.term()
		l.Atom.Off = m.Intn(2)
	} else {
		l.Atom = m.atom()
		l.Left.Off, l.Right.Off = m.Intn(2), m.Intn(2)
	}
	return l
}

func (m maker) body(least int) []api.Literal {
	var ls []api.Literal
	for range m.some(least, api.MaxBody) {
		ls = append(ls, m.literal())
	}
	return ls
}

func (m maker) program() api.Program {
	var p api.Program
	for range m.Intn(6) {
		p.Clauses = append(p.Clauses, api.Clause{Head: m.atom(), Body: m.body(0)})
	}
	return p
}

func (m maker) fact() api.Fact {
	f := api.Fact{Pred: m.name()}
	for range m.some(0, api.MaxArity) {
		f.Args = append(f.Args, m.constant())
	}
	return f
}

func (m maker) breakTerm(t *api.Term) {
	switch m.Intn(3) {
	case 0:
		t.Kind = pick(m, someKinds)
	case 1:
		t.Int = pick(m, someInts)
	case 2:
		t.Text = pick(m, someTexts)
	}
}

func (m maker) breakAtom(a *api.Atom) {
	switch n := m.Intn(4); {
	case n == 0:
		a.Pred = pick(m, someTexts)
	case n == 1:
		a.Args = append(slices.Clone(a.Args), make([]api.Term, m.Intn(4))...)
	case len(a.Args) > 0:
		m.breakTerm(&a.Args[m.Intn(len(a.Args))])
	}
}

func (m maker) breakLiteral(l *api.Literal) {
	switch m.Intn(6) {
	case 0:
		l.Kind = pick(m, someKinds)
	case 1:
		l.Op = m.Intn(9) - 1
	case 2:
		m.breakTerm(&l.Left)
	case 3:
		m.breakTerm(&l.Right)
	default:
		m.breakAtom(&l.Atom)
	}
}

func (m maker) breakClause(c *api.Clause) {
	switch n := m.Intn(5); {
	case n == 0:
		m.breakAtom(&c.Head)
	case n == 1:
		c.Body = append(slices.Clone(c.Body), make([]api.Literal, m.Intn(4))...)
	case n == 2:
		for range m.Intn(20) {
			c.Body = append(c.Body, m.literal())
		}
	case len(c.Body) > 0:
		m.breakLiteral(&c.Body[m.Intn(len(c.Body))])
	}
}

func (m maker) breakFact(f *api.Fact) {
	a := api.Atom{Pred: f.Pred}
	for _, c := range f.Args {
		a.Args = append(a.Args, api.Term{Kind: c.Kind, Int: c.Int, Text: c.Text})
	}
	m.breakAtom(&a)
	*f = fact(a.Pred, a.Args...)
}

func holdAll(t *testing.T, p api.Program) {
	t.Helper()
	if holdProgram(t, p) {
		holdBack(t, p)
		holdNormal(t, print.Program(p))
	}
	for _, c := range p.Clauses {
		holdClause(t, c)
		holdAtom(t, c.Head)
		if holdQuery(t, c.Body) {
			holdQueryBack(t, c.Body)
		}
	}
}

func TestRandomPrograms(t *testing.T) {
	m := maker{rand.New(rand.NewSource(4))}
	for range 500 {
		p := m.program()
		holdAll(t, p)
		for range m.Intn(4) {
			if len(p.Clauses) > 0 {
				m.breakClause(&p.Clauses[m.Intn(len(p.Clauses))])
			}
		}
		holdAll(t, p)
	}
}

func TestRandomFacts(t *testing.T) {
	m := maker{rand.New(rand.NewSource(44))}
	for range 3000 {
		var fs []api.Fact
		for range m.Intn(6) {
			fs = append(fs, m.fact())
		}
		holdFacts(t, fs)
		holdFactsBack(t, fs)
		if len(fs) > 0 {
			f := &fs[m.Intn(len(fs))]
			m.breakFact(f)
			holdFact(t, *f)
			if holdFacts(t, fs) {
				holdFactsBack(t, fs)
			}
		}
	}
}

// P4, of texts that parse takes and that are not canonical: blanks, comments, other spellings of the same tokens.
func TestRandomSpellings(t *testing.T) {
	m := maker{rand.New(rand.NewSource(444))}
	for range 300 {
		s := print.Program(m.program())
		loose := m.loose(s)
		if len(loose) > api.MaxSource {
			continue
		}
		p, f := parse.Program(loose)
		if f != (api.Fault{}) {
			t.Fatalf("parse.Program(%q): %v", short(loose), f)
		}
		want(t, print.Program(p), s)
		if t.Failed() {
			return
		}
	}
}

// loose is a text with the same tokens, spelt in other ways and with other things between them.
func (m maker) loose(src string) string {
	gaps := []string{"\n", "\t\r ", "%,.\n", "/* a. /* b */ */", " % x\n % y\n"}
	out := pick(m, gaps)
	tokens, _ := lex.Scan(src)
	for _, x := range tokens {
		switch {
		case x.Kind == api.TText && len(x.Text) < 20:
			out += m.looseText(x.Text)
		case x.Kind == api.TInt && x.Int >= 0:
			out += pick(m, []string{"", "0", "00"}) + src[x.Off:x.End]
		case x.Kind == api.TInt:
			out += "-0" + src[x.Off+1:x.End]
		default:
			out += src[x.Off:x.End]
		}
		out += pick(m, gaps)
	}
	return out
}

func (m maker) looseText(s string) string {
	out := `"`
	for _, b := range []byte(s) {
		out += fmt.Sprintf(pick(m, []string{`\x%02x`, `\x%02X`}), b)
	}
	return out + `"`
}

// P4, of whatever bytes: what parse takes of them is well formed.
func TestRandomBytes(t *testing.T) {
	m := maker{rand.New(rand.NewSource(4444))}
	pieces := []string{"p", "q", "not", "X", "_", "7", "-0", `"a"`, `"\x41\n"`, "(", ")", ",", ".", ":-", "=", "<=", " ", "\n", "%\n", "p(a)", "p(X,1)", "p :- q", "p.", "r(\"\x80\")."}
	taken := 0
	for range 60000 {
		var b strings.Builder
		for range 1 + m.Intn(8) {
			b.WriteString(pick(m, pieces))
		}
		if _, f := parse.Program(b.String()); f == (api.Fault{}) {
			taken++
			holdNormal(t, b.String())
		}
		if ls, f := parse.Query(b.String()); f == (api.Fault{}) && (!holdQuery(t, ls) || print.Query(ls) == "") {
			t.Fatalf("P4: the query %q is not well formed", b.String())
		}
		if x, f := parse.Fact(b.String()); f == (api.Fault{}) && (!holdFact(t, x) || print.Fact(x) == "") {
			t.Fatalf("P4: the fact %q is not well formed", b.String())
		}
	}
	if taken < 1000 {
		t.Errorf("only %d texts were taken", taken)
	}
}
