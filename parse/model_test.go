package parse_test

import (
	"math/rand"
	"regexp"
	"slices"
	"strings"
	"testing"

	"edict/api"
	"edict/lex"
)

// The model of chapter 3 that the tests hold parse against: slow, made of patterns, and written apart from the program.
// A text is one letter a token, by the kinds' numbers: $ the end, n a name, V a variable, 7 an integer, t a text, > an arrow,
// ! the word not, = a comparison; ( ) , . stand for themselves.

const letters = "$nV7t(),.>!="

const (
	aTerm    = `[nV7t]`
	aValue   = `[n7t]`
	anAtom   = `n(\(` + aTerm + `(,` + aTerm + `)*\))?`
	aGround  = `n(\(` + aValue + `(,` + aValue + `)*\))?`
	aLiteral = `(!?` + anAtom + `|` + aTerm + `=` + aTerm + `)`
	aBody    = aLiteral + `(,` + aLiteral + `)*`
)

// A form is a call with its pattern, and endings: whatever can be made a right text can be made one by one of these.
type form struct {
	call
	whole   *regexp.Regexp
	endings []string
	most    int // clauses or facts
}

var forms = []form{
	{program, regexp.MustCompile(`\A(` + anAtom + `(>` + aBody + `)?\.)*\$\z`), []string{"$", ".$", ").$", "n).$", "n.$", "=n.$"}, api.MaxClauses},
	{facts, regexp.MustCompile(`\A(` + aGround + `\.)*\$\z`), []string{"$", ".$", ").$", "n).$"}, api.MaxFacts},
	{query, regexp.MustCompile(`\A` + aBody + `\.\$\z`), []string{"$", ".$", ").$", "n).$", "n.$", "=n.$"}, 1},
	{fact, regexp.MustCompile(`\A` + aGround + `\$\z`), []string{"$", ")$", "n)$", "n$"}, 1},
}

// viable tells whether something behind these tokens would make a right text of them, but for the limits.
func (f form) viable(ahead string) bool {
	if strings.HasSuffix(ahead, "$") {
		return f.whole.MatchString(ahead)
	}
	for _, e := range f.endings {
		if f.whole.MatchString(ahead + e) {
			return true
		}
	}
	return false
}

// tooMany is the limit that the last of these tokens, which can stand there, goes beyond.
func (f form) tooMany(tokens string) api.Errno {
	ahead, last := tokens[:len(tokens)-1], tokens[len(tokens)-1]
	open, shut := strings.LastIndexByte(ahead, '('), strings.LastIndexByte(ahead, ')')
	switch {
	case last == '$':
	case strings.HasSuffix(ahead, "."):
		if strings.Count(ahead, ".") == f.most {
			return api.ErrClauses
		}
	case !strings.HasSuffix(ahead, ","):
	case open > shut:
		if strings.Count(ahead[open:], ",") == api.MaxArity {
			return api.ErrArity
		}
	default:
		body := ahead[strings.LastIndexAny(ahead, ".>")+1:]
		body = regexp.MustCompile(`\([^)]*\)`).ReplaceAllString(body, "")
		if strings.Count(body, ",") == api.MaxBody {
			return api.ErrBody
		}
	}
	return api.OK
}

func (f form) modelFault(src string) api.Fault {
	tokens, behind := lex.Scan(src)
	word := ""
	for _, t := range tokens {
		word += letters[t.Kind : t.Kind+1]
		code := api.OK
		if f.viable(word) {
			code = f.tooMany(word)
		} else if t.Kind == api.TEnd {
			code = api.ErrEnd
		} else {
			code = api.ErrSyntax
		}
		if code != api.OK {
			return api.Fault{Code: code, Off: t.Off}
		}
	}
	return behind
}

// back is the tokens that an answer was made of. Where the answer has no offset for one, it is 0.
type back struct{ tokens []api.Token }

func (b *back) mark(kind int) { b.tokens = append(b.tokens, api.Token{Kind: kind}) }

func (b *back) term(x api.Term) {
	kind := map[int]int{api.KInt: api.TInt, api.KName: api.TName, api.KText: api.TText, api.KVar: api.TVar}[x.Kind]
	b.tokens = append(b.tokens, api.Token{Kind: kind, Int: x.Int, Text: x.Text, Off: x.Off})
}

func (b *back) atom(a api.Atom) {
	b.tokens = append(b.tokens, api.Token{Kind: api.TName, Text: a.Pred, Off: a.Off})
	for i, x := range a.Args {
		b.mark(map[bool]int{true: api.TLParen, false: api.TComma}[i == 0])
		b.term(x)
	}
	if len(a.Args) > 0 {
		b.mark(api.TRParen)
	}
}

func (b *back) body(ls []api.Literal) {
	for i, l := range ls {
		if i > 0 {
			b.mark(api.TComma)
		}
		switch l.Kind {
		case api.LNeg:
			b.tokens = append(b.tokens, api.Token{Kind: api.TNot, Off: l.Off})
			b.atom(l.Atom)
		case api.LPos:
			b.atom(l.Atom)
		case api.LTest:
			b.term(l.Left)
			b.tokens = append(b.tokens, api.Token{Kind: api.TOp, Op: l.Op})
			b.term(l.Right)
		}
	}
	b.mark(api.TDot)
}

func (b *back) all(answer any) {
	switch x := answer.(type) {
	case api.Program:
		for _, c := range x.Clauses {
			b.atom(c.Head)
			if len(c.Body) == 0 {
				b.mark(api.TDot)
				continue
			}
			b.mark(api.TArrow)
			b.body(c.Body)
		}
	case []api.Atom:
		for _, a := range x {
			b.atom(a)
			b.mark(api.TDot)
		}
	case []api.Literal:
		b.body(x)
	case api.Fact:
		a := api.Atom{Pred: x.Pred}
		for _, c := range x.Args {
			a.Args = append(a.Args, api.Term{Kind: c.Kind, Int: c.Int, Text: c.Text})
		}
		b.atom(a)
	}
	b.mark(api.TEnd)
}

// unusedFields tells whether a literal has something in a field that its kind does not use, or begins elsewhere than its first part.
func unusedFields(l api.Literal) bool {
	noTest := l.Op == 0 && l.Left == (api.Term{}) && l.Right == (api.Term{})
	noAtom := l.Atom.Pred == "" && len(l.Atom.Args) == 0 && l.Atom.Off == 0
	switch l.Kind {
	case api.LPos:
		return !noTest || l.Off != l.Atom.Off
	case api.LNeg:
		return !noTest
	}
	return !noAtom || l.Off != l.Left.Off
}

func literalsOf(answer any) []api.Literal {
	switch x := answer.(type) {
	case api.Program:
		var all []api.Literal
		for _, c := range x.Clauses {
			all = append(all, c.Body...)
		}
		return all
	case []api.Literal:
		return x
	}
	return nil
}

// known are the kinds of tokens whose offsets an answer tells.
func (f form) known(kind int) bool {
	return f.name != "Fact" && slices.Contains([]int{api.TName, api.TVar, api.TInt, api.TText, api.TNot}, kind)
}

// hold holds what the call answers against the model: the fault; else the tokens that the answer was made of.
// (No text has two readings, so these tell the answer.)
func (f form) hold(t *testing.T, src string) {
	t.Helper()
	if t.Failed() { // one text tells enough
		return
	}
	want := f.modelFault(src)
	got, fault := f.do(src)
	if fault != want {
		t.Errorf("%s(%q): fault %v, want %v", f.name, short(src), fault, want)
	}
	if want != (api.Fault{}) {
		if !same(got, f.zero) {
			t.Errorf("%s(%q) = %v beside a fault", f.name, short(src), got)
		}
		return
	}
	tokens, _ := lex.Scan(src)
	for i := range tokens {
		tokens[i].End = 0
		if !f.known(tokens[i].Kind) {
			tokens[i].Off = 0
		}
	}
	b := &back{}
	b.all(got)
	if !slices.Equal(b.tokens, tokens) || slices.ContainsFunc(literalsOf(got), unusedFields) {
		t.Errorf("%s(%q) = %v", f.name, short(src), got)
	}
}

// P3.3: from every beginning that can stand, each token once; those that can stand, and what can stand behind them, and so on.
func TestAllShortTexts(t *testing.T) {
	const depth = 7
	for _, f := range forms {
		var walk func(src, word string, left int)
		walk = func(src, word string, left int) {
			f.hold(t, src)
			f.hold(t, src+"?")
			for _, s := range spellings {
				longer, next := src+s.spelling+" ", word+letters[s.kind:s.kind+1]
				switch {
				case !f.viable(next):
					f.refused(t, longer, api.ErrSyntax, len(src))
					f.refused(t, longer+"\"", api.ErrSyntax, len(src))
				case left > 0:
					walk(longer, next, left-1)
				}
			}
		}
		walk("", "", depth)
	}
}

// words are P3.3's own: what can stand behind the tokens of the first text, by letters.
func TestWhatCanStandWhere(t *testing.T) {
	terms, values, begins := "nV7t", "n7t", "n!V7t"
	for _, c := range []struct {
		form  int
		ahead string
		can   string
	}{
		{0, "", "n$"}, {0, "p. ", "n$"}, {1, "", "n$"}, {1, "p. ", "n$"}, {3, "", "n"}, {2, "", begins}, {0, "p :- ", begins}, {0, "p :- q, ", begins}, {2, "q, ", begins},
		{0, "p :- not ", "n"}, {2, "not ", "n"}, {0, "p ", "(.>"}, {0, "p(a) ", ".>"}, {1, "p ", "(."}, {1, "p(a) ", "."}, {3, "p ", "($"}, {3, "p(a) ", "$"},
		{0, "p :- q ", "(=,."}, {2, "q ", "(=,."}, {0, "p :- not q ", "(,."}, {2, "not q ", "(,."}, {2, "q(a) ", ",."}, {2, "not q(a) ", ",."}, {0, "p :- q(a) ", ",."},
		{2, "X ", "="}, {2, "1 ", "="}, {2, "\"t\" ", "="}, {0, "p :- _ ", "="}, {2, "X = ", terms}, {2, "a < ", terms}, {2, "1 >= 2 ", ",."}, {2, "1 >= a ", ",."}, {2, "a = X ", ",."},
		{0, "p(", terms}, {0, "p(a, ", terms}, {2, "p(", terms}, {2, "not p(X, ", terms}, {1, "p(", values}, {1, "p(1, ", values}, {3, "p(", values}, {3, "p(1, ", values},
		{0, "p(X ", ",)"}, {1, "p(a ", ",)"}, {2, "p(1 ", ",)"}, {3, "p(\"\" ", ",)"}, {2, "a. ", "$"},
	} {
		f := forms[c.form]
		for _, s := range spellings {
			_, fault := f.do(c.ahead + s.spelling)
			taken := fault.Code == api.OK || fault.Off > len(c.ahead)
			if taken != strings.Contains(c.can, letters[s.kind:s.kind+1]) || !taken && fault != (api.Fault{Code: api.ErrSyntax, Off: len(c.ahead)}) {
				t.Errorf("%s(%q): fault %v", f.name, c.ahead+s.spelling, fault)
			}
		}
		want := api.Fault{Code: api.ErrEnd, Off: len(c.ahead)}
		if strings.Contains(c.can, "$") {
			want = api.Fault{}
		}
		if _, fault := f.do(c.ahead); fault != want {
			t.Errorf("%s(%q): fault %v, want %v", f.name, c.ahead, fault, want)
		}
	}
}

var gaps = []string{"", " ", " ", "\n", "\t", "% c ?\n", "/* /* ) */ */", "\r\n"}

// spelled has several spellings for each letter of the model.
var spelled = map[byte][]string{
	'n': {"p", "q1", "aZ_9", "nota"}, 'V': {"X", "_", "_x", "Not"}, '7': {"0", "-5", "007", "9223372036854775807"}, 't': {`""`, `"a b"`, `"\x00\n\"%"`, "\"\xff\""},
	'(': {"("}, ')': {")"}, ',': {","}, '.': {"."}, '>': {":-"}, '!': {"not"}, '=': {"=", "!=", "<", "<=", ">", ">="},
}

var wild = []string{"?", "\"", "\\", "12ab", "/*", "*/", "%", "-", ":", "!", "\x00", "9223372036854775808", "\"\\q\"", strings.Repeat("a", api.MaxName+1)}

// some is a number of things: mostly few, now and then about as many as there may be.
func some(r *rand.Rand, least, most int) int {
	if r.Intn(12) == 0 {
		return most - 1 + r.Intn(3)
	}
	return least + r.Intn(3)
}

func listed(r *rand.Rand, n int, one func(*rand.Rand) string) string {
	parts := make([]string, n)
	for i := range parts {
		parts[i] = one(r)
	}
	return strings.Join(parts, ",")
}

func randomLetter(r *rand.Rand, from string) string { return string(from[r.Intn(len(from))]) }

func randomTerm(r *rand.Rand) string { return randomLetter(r, "nV7t") }

func randomValue(r *rand.Rand) string { return randomLetter(r, "n7t") }

func randomAtom(r *rand.Rand, term func(*rand.Rand) string) string {
	if n := some(r, 0, api.MaxArity); n > 0 {
		return "n(" + listed(r, n, term) + ")"
	}
	return "n"
}

func randomLiteral(r *rand.Rand) string {
	switch r.Intn(3) {
	case 0:
		return randomTerm(r) + "=" + randomTerm(r)
	case 1:
		return "!" + randomAtom(r, randomTerm)
	}
	return randomAtom(r, randomTerm)
}

func randomBody(r *rand.Rand) string { return listed(r, some(r, 1, api.MaxBody), randomLiteral) + "." }

func randomClause(r *rand.Rand) string {
	if r.Intn(2) == 0 {
		return randomAtom(r, randomTerm) + "."
	}
	return randomAtom(r, randomTerm) + ">" + randomBody(r)
}

// randomWord is a right text of a call, but for the limits, in the model's letters.
func randomWord(r *rand.Rand, f form) string {
	word := ""
	switch f.name {
	case "Program":
		for range r.Intn(4) {
			word += randomClause(r)
		}
	case "Facts":
		for range r.Intn(5) {
			word += randomAtom(r, randomValue) + "."
		}
	case "Query":
		word = randomBody(r)
	case "Fact":
		word = randomAtom(r, randomValue)
	}
	return word
}

// broken changes one letter, takes one out, or puts one in.
func broken(r *rand.Rand, word string) string {
	at := r.Intn(len(word) + 1)
	ahead, behind := word[:at], word[at:]
	if r.Intn(3) > 0 && behind != "" {
		behind = behind[1:]
	}
	if r.Intn(3) > 0 {
		ahead += randomLetter(r, letters[1:])
	}
	return ahead + behind
}

func spell(r *rand.Rand, word string) string {
	var b strings.Builder
	for _, letter := range []byte(word) {
		from := spelled[letter]
		b.WriteString(gaps[r.Intn(len(gaps))] + from[r.Intn(len(from))])
		if r.Intn(200) == 0 {
			b.WriteString(wild[r.Intn(len(wild))])
		}
	}
	return b.String() + gaps[r.Intn(len(gaps))]
}

func TestRandomTexts(t *testing.T) {
	r := rand.New(rand.NewSource(3))
	met := map[api.Errno]int{}
	for range 400 {
		for _, f := range forms {
			word := randomWord(r, f)
			for _, src := range []string{spell(r, word), spell(r, broken(r, word)), spell(r, word[:r.Intn(len(word)+1)])} {
				for _, g := range forms {
					g.hold(t, src)
				}
				_, fault := f.do(src)
				met[fault.Code]++
			}
		}
	}
	for _, code := range []api.Errno{api.OK, api.ErrByte, api.ErrQuote, api.ErrInt, api.ErrSyntax, api.ErrEnd, api.ErrArity, api.ErrBody} {
		if met[code] < 10 {
			t.Errorf("the random texts have the fault %d %d times: too few to tell", code, met[code])
		}
	}
}

func TestRandomBytes(t *testing.T) {
	r := rand.New(rand.NewSource(4))
	for range 5000 {
		bytes := make([]byte, r.Intn(12))
		for i := range bytes {
			bytes[i] = byte(r.Intn(256))
		}
		for _, f := range forms {
			f.hold(t, string(bytes))
		}
	}
}
