package lex_test

import (
	"math"
	"math/rand"
	"slices"
	"strings"
	"testing"

	"edict/api"
	"edict/lex"
)

func tok(kind int, off, end int) api.Token {
	return api.Token{Kind: kind, Off: off, End: end}
}

func word(kind int, text string, off int) api.Token {
	return api.Token{Kind: kind, Text: text, Off: off, End: off + len(text)}
}

func num(n int64, off, end int) api.Token {
	return api.Token{Kind: api.TInt, Int: n, Off: off, End: end}
}

func text(s string, off, end int) api.Token {
	return api.Token{Kind: api.TText, Text: s, Off: off, End: end}
}

func op(o, off, end int) api.Token {
	return api.Token{Kind: api.TOp, Op: o, Off: off, End: end}
}

func fault(code api.Errno, off int) api.Fault {
	return api.Fault{Code: code, Off: off}
}

// short keeps a failed test's telling within bounds.
func short(s string) string {
	if len(s) > 80 {
		return s[:80] + ".."
	}
	return s
}

func wantScan(t *testing.T, src string, want []api.Token, f api.Fault) {
	t.Helper()
	got, gotFault := lex.Scan(src)
	if !slices.Equal(got, want) || gotFault != f {
		t.Errorf("Scan(%q) = %v, %v; want %v, %v", short(src), got, gotFault, want, f)
	}
}

// wantTokens: src has these tokens, a TEnd and no fault.
func wantTokens(t *testing.T, src string, want ...api.Token) {
	t.Helper()
	wantScan(t, src, append(want, tok(api.TEnd, len(src), len(src))), api.Fault{})
}

func wantFault(t *testing.T, src string, code api.Errno, off int, ahead ...api.Token) {
	t.Helper()
	wantScan(t, src, ahead, fault(code, off))
}

// L1

func TestScanClause(t *testing.T) {
	wantTokens(t, "p(X, 12) :- q.",
		word(api.TName, "p", 0), tok(api.TLParen, 1, 2), word(api.TVar, "X", 2), tok(api.TComma, 3, 4), num(12, 5, 7),
		tok(api.TRParen, 7, 8), tok(api.TArrow, 9, 11), word(api.TName, "q", 12), tok(api.TDot, 13, 14))
	wantTokens(t, "p:-not q(\"a\"),1<=X.",
		word(api.TName, "p", 0), tok(api.TArrow, 1, 3), tok(api.TNot, 3, 6), word(api.TName, "q", 7), tok(api.TLParen, 8, 9),
		text("a", 9, 12), tok(api.TRParen, 12, 13), tok(api.TComma, 13, 14), num(1, 14, 15), op(api.OpLe, 15, 17),
		word(api.TVar, "X", 17), tok(api.TDot, 18, 19))
}

func TestScanNothing(t *testing.T) {
	for _, src := range []string{"", " ", "\t\n\r ", " % nothing", "%", "/**/", "% /*", "% \"", "%\r% still a comment"} {
		wantTokens(t, src)
	}
}

func TestScanWords(t *testing.T) {
	for _, w := range []string{"a", "z", "nota", "nOT", "no", "aB_9", "a_", "n"} {
		wantTokens(t, w, word(api.TName, w, 0))
	}
	for _, w := range []string{"A", "Z", "_", "__", "_a", "_9", "Not", "NOT", "_not", "A_b9"} {
		wantTokens(t, w, word(api.TVar, w, 0))
	}
	wantTokens(t, "not", tok(api.TNot, 0, 3))
	wantTokens(t, "not(not.", tok(api.TNot, 0, 3), tok(api.TLParen, 3, 4), tok(api.TNot, 4, 7), tok(api.TDot, 7, 8))
}

func TestScanLongWords(t *testing.T) {
	rest := strings.Repeat("a", api.MaxName-1)
	wantTokens(t, "a"+rest, word(api.TName, "a"+rest, 0))
	wantTokens(t, "A"+rest, word(api.TVar, "A"+rest, 0))
	wantTokens(t, "_"+rest, word(api.TVar, "_"+rest, 0))
	for _, w := range []string{"a" + rest + "a", "A" + rest + "9", "_" + rest + "_", "not" + rest, strings.Repeat("x", api.MaxSource)} {
		wantFault(t, w, api.ErrName, 0)
	}
	wantFault(t, "("+rest+"ab", api.ErrName, 1, tok(api.TLParen, 0, 1))
	// What ends the word is no part of its length.
	wantFault(t, "a"+rest+"#", api.ErrByte, api.MaxName, word(api.TName, "a"+rest, 0))
}

func TestScanIntegers(t *testing.T) {
	for _, c := range []struct {
		src  string
		want int64
	}{
		{"0", 0}, {"000", 0}, {"-0", 0}, {"-000", 0}, {"007", 7}, {"-007", -7}, {"12", 12}, {"-1", -1}, {"08", 8},
		{"9223372036854775807", math.MaxInt64}, {"-9223372036854775808", math.MinInt64},
		{"0009223372036854775807", math.MaxInt64}, {"-09223372036854775808", math.MinInt64},
		{strings.Repeat("0", api.MaxSource-1) + "9", 9}, {"-" + strings.Repeat("0", api.MaxSource-2) + "9", -9},
	} {
		wantTokens(t, c.src, num(c.want, 0, len(c.src)))
	}
	for _, src := range []string{
		"9223372036854775808", "-9223372036854775809", "18446744073709551616", "18446744073709551617", "-18446744073709551615",
		strings.Repeat("9", api.MaxSource), "12ab", "1_", "1_000", "0x10", "0b1", "1e5", "-1a", "1A", "9223372036854775808a",
	} {
		wantFault(t, src, api.ErrInt, 0)
		if len(src) < 100 {
			wantFault(t, "x "+src+" #", api.ErrInt, 2, word(api.TName, "x", 0))
		}
	}
}

func TestScanMinus(t *testing.T) {
	for _, src := range []string{"-", "- 1", "--", "--1", "-a", "-_", "-%", "-/**/1", "-(", "-\"", "-\xff"} {
		wantFault(t, src, api.ErrByte, 0)
	}
	wantTokens(t, "1-2", num(1, 0, 1), num(-2, 1, 3))
	wantTokens(t, "p:--5", word(api.TName, "p", 0), tok(api.TArrow, 1, 3), num(-5, 3, 5))
	wantFault(t, "1--2", api.ErrByte, 1, num(1, 0, 1))
	wantFault(t, "a-", api.ErrByte, 1, word(api.TName, "a", 0))
}

func TestScanTexts(t *testing.T) {
	for _, c := range []struct{ src, want string }{
		{`""`, ""}, {`"a b"`, "a b"}, {`"a\x41\n"`, "aA\n"}, {`"\"\\\n\t\r"`, "\"\\\x0a\x09\x0d"}, {`"\x00\xfF\xAb"`, "\x00\xff\xab"},
		{`"% no comment"`, "% no comment"}, {`"/* none"`, "/* none"}, {`"\\"`, "\\"}, {`"\x5c"`, "\\"}, {`"\x22"`, "\""},
		{`"\\n"`, "\\n"}, {`"\x411"`, "A1"}, {"\"\x20\x7f\x80\xff\"", "\x20\x7f\x80\xff"}, {`"é"`, "é"}, {`"not"`, "not"},
	} {
		wantTokens(t, c.src, text(c.want, 0, len(c.src)))
	}
	wantTokens(t, `a"b""c"1`, word(api.TName, "a", 0), text("b", 1, 4), text("c", 4, 7), num(1, 7, 8))
}

func TestScanTextBytes(t *testing.T) {
	for b := range 256 {
		raw := "\"" + string([]byte{byte(b)}) + "\""
		switch {
		case b < 0x20:
			wantFault(t, raw, api.ErrQuote, 0)
		case b == '"':
			wantFault(t, raw, api.ErrQuote, 2, text("", 0, 2))
		case b == '\\':
			wantFault(t, raw, api.ErrQuote, 0) // the last quote is the escape's
		default:
			wantTokens(t, raw, text(raw[1:2], 0, 3))
		}
	}
}

func TestScanEscapeBytes(t *testing.T) {
	known := map[byte]string{'"': "\"", '\\': "\\", 'n': "\n", 't': "\t", 'r': "\r"}
	for b := range 256 {
		src := "\"\\" + string([]byte{byte(b)}) + "\""
		if value, ok := known[byte(b)]; ok {
			wantTokens(t, src, text(value, 0, 4))
		} else {
			wantFault(t, src, api.ErrEscape, 1)
		}
		digit := strings.IndexByte("0123456789abcdef", byte(b))
		if digit < 0 {
			digit = strings.IndexByte("0123456789ABCDEF", byte(b))
		}
		low := "\"\\x1" + string([]byte{byte(b)}) + "\""
		high := "\"\\x" + string([]byte{byte(b)}) + "2\""
		if digit < 0 {
			wantFault(t, low, api.ErrEscape, 1)
			wantFault(t, high, api.ErrEscape, 1)
		} else {
			wantTokens(t, low, text(string([]byte{byte(0x10 + digit)}), 0, 6))
			wantTokens(t, high, text(string([]byte{byte(digit<<4 + 2)}), 0, 6))
		}
	}
}

func TestScanTextFaults(t *testing.T) {
	for _, src := range []string{"\"", "\"ab", "\"a\nb\"", "\"a\tb\"", "\"\x00\"", "\"\x1f", "\"\\n", "\"\\\""} {
		wantFault(t, src, api.ErrQuote, 0)
		wantFault(t, "p "+src, api.ErrQuote, 2, word(api.TName, "p", 0))
	}
	for _, src := range []string{`"\q"`, `"\x4"`, `"\x"`, `"\x`, `"\x4`, `"\`, `"\N"`, `"\0"`, `"\'"`, `"\u0041"`, "\"\\\n\"", `"\x+1"`, `"\x_1"`, `"\x 1"`, `"\X41"`} {
		wantFault(t, src, api.ErrEscape, 1)
	}
	wantFault(t, `p "ab\q`, api.ErrEscape, 5, word(api.TName, "p", 0))
	wantFault(t, "\"\\q\n", api.ErrEscape, 1)
	wantFault(t, "\"\n\\q", api.ErrQuote, 0)
}

func TestScanLongTexts(t *testing.T) {
	full := strings.Repeat("a", api.MaxText)
	wantTokens(t, "\""+full+"\"", text(full, 0, api.MaxText+2))
	// It is the value's bytes that count, not the spelling's.
	wantTokens(t, "\""+strings.Repeat(`\x61`, api.MaxText)+"\"", text(full, 0, 4*api.MaxText+2))
	wantFault(t, "\""+full+"a\"", api.ErrText, 0)
	wantFault(t, " \""+full+"a", api.ErrText, 1)
	wantFault(t, "\""+full+`\n"`, api.ErrText, 0)
	wantFault(t, "\""+full+`a\q`, api.ErrText, 0)
	wantFault(t, "\""+full+"a\n", api.ErrText, 0)
	wantFault(t, "\""+full+`\q`, api.ErrEscape, api.MaxText+1)
	wantFault(t, "\""+full+`\`, api.ErrEscape, api.MaxText+1)
	wantFault(t, "\""+full, api.ErrQuote, 0)
	wantFault(t, "\""+full+"\n\"", api.ErrQuote, 0)
}

func TestScanMarks(t *testing.T) {
	for _, c := range []struct {
		src      string
		kind, op int
	}{
		{"(", api.TLParen, 0}, {")", api.TRParen, 0}, {",", api.TComma, 0}, {".", api.TDot, 0}, {":-", api.TArrow, 0},
		{"=", api.TOp, api.OpEq}, {"!=", api.TOp, api.OpNe}, {"<", api.TOp, api.OpLt}, {"<=", api.TOp, api.OpLe},
		{">", api.TOp, api.OpGt}, {">=", api.TOp, api.OpGe},
	} {
		wantTokens(t, c.src, api.Token{Kind: c.kind, Op: c.op, End: len(c.src)})
		wantTokens(t, c.src+c.src, api.Token{Kind: c.kind, Op: c.op, End: len(c.src)}, api.Token{Kind: c.kind, Op: c.op, Off: len(c.src), End: 2 * len(c.src)})
	}
	wantTokens(t, "a<=b=<c", word(api.TName, "a", 0), op(api.OpLe, 1, 3), word(api.TName, "b", 3), op(api.OpEq, 4, 5), op(api.OpLt, 5, 6), word(api.TName, "c", 6))
	wantTokens(t, "=>==", op(api.OpEq, 0, 1), op(api.OpGe, 1, 3), op(api.OpEq, 3, 4))
	wantTokens(t, "< => =", op(api.OpLt, 0, 1), op(api.OpEq, 2, 3), op(api.OpGt, 3, 4), op(api.OpEq, 5, 6))
	wantTokens(t, "1.2", num(1, 0, 1), tok(api.TDot, 1, 2), num(2, 2, 3))
	for _, src := range []string{"!", "! =", "!<", ":", ": -", ":=", "::-", "/", "/ *", "//", "*/", "*"} {
		wantFault(t, src, api.ErrByte, 0)
		wantFault(t, "a"+src, api.ErrByte, 1, word(api.TName, "a", 0))
	}
}

func TestScanEveryByteAlone(t *testing.T) {
	for b := range 256 {
		src := string([]byte{byte(b)})
		switch {
		case strings.Contains(" \t\n\r%", src):
			wantTokens(t, src)
		case 'a' <= b && b <= 'z':
			wantTokens(t, src, word(api.TName, src, 0))
		case 'A' <= b && b <= 'Z', b == '_':
			wantTokens(t, src, word(api.TVar, src, 0))
		case '0' <= b && b <= '9':
			wantTokens(t, src, num(int64(b-'0'), 0, 1))
		case b == '"':
			wantFault(t, src, api.ErrQuote, 0)
		case strings.Contains("(),.=<>", src):
			if got, f := lex.Scan(src); len(got) != 2 || f.Code != api.OK {
				t.Errorf("Scan(%q) = %v, %v", src, got, f)
			}
		default:
			wantFault(t, src, api.ErrByte, 0)
		}
	}
}

func TestScanComments(t *testing.T) {
	wantTokens(t, "/* a /* b */ */ c", word(api.TName, "c", 16))
	wantTokens(t, "a/**/b", word(api.TName, "a", 0), word(api.TName, "b", 5))
	wantTokens(t, "a% b\nc", word(api.TName, "a", 0), word(api.TName, "c", 5))
	wantTokens(t, "% a\r b\nc", word(api.TName, "c", 7))
	wantTokens(t, "% /* \na", word(api.TName, "a", 6))
	wantTokens(t, "/* % */a", word(api.TName, "a", 7))
	wantTokens(t, "/* \" */a", word(api.TName, "a", 7))
	wantTokens(t, "/* \\ # \x00\xff\n */a", word(api.TName, "a", 13))
	wantTokens(t, "/***/a", word(api.TName, "a", 5))
	wantTokens(t, "/*//**/*/a", word(api.TName, "a", 9))
	wantTokens(t, "/*/**/*/a", word(api.TName, "a", 8))
	wantTokens(t, " /**/ % x\n/* y */\t%\n/**//**/ a", word(api.TName, "a", 29))
	wantFault(t, "/**/*/", api.ErrByte, 4)
	wantFault(t, "/* */ */", api.ErrByte, 6)
}

func TestScanOpenComments(t *testing.T) {
	for _, src := range []string{"/*", "/*/", "/* *", "/* /* */", "/*/*/", "/* * /", "/* %", "/* /* /* */ */ ", "/*/**/"} {
		wantFault(t, src, api.ErrComment, 0)
		wantFault(t, "x "+src, api.ErrComment, 2, word(api.TName, "x", 0))
		// It is the first byte of its outermost /*, behind the comments that are whole.
		wantFault(t, "/* */% \n"+src, api.ErrComment, 8)
	}
	wantFault(t, "x /* y\n# \"", api.ErrComment, 2, word(api.TName, "x", 0))
}

func TestScanDeepComments(t *testing.T) {
	deep := api.MaxSource / 4
	whole := strings.Repeat("/*", deep) + strings.Repeat("*/", deep)
	wantTokens(t, whole)
	wantFault(t, whole[:len(whole)-1], api.ErrComment, 0)
	wantFault(t, strings.Repeat("/*", 2*deep), api.ErrComment, 0)
}

func TestScanBlanks(t *testing.T) {
	for b := range 256 {
		src := "a" + string([]byte{byte(b)}) + "b"
		got, f := lex.Scan(src)
		separates := f.Code == api.OK && slices.Equal(got, []api.Token{word(api.TName, "a", 0), word(api.TName, "b", 2), tok(api.TEnd, 3, 3)})
		if want := b == 0x20 || b == 0x09 || b == 0x0a || b == 0x0d; separates != want {
			t.Errorf("the byte %#x is a blank: %v, want %v", b, separates, want)
		}
	}
}

func TestScanLongSource(t *testing.T) {
	wantTokens(t, strings.Repeat(" ", api.MaxSource))
	wantTokens(t, strings.Repeat(" ", api.MaxSource-1)+"a", word(api.TName, "a", api.MaxSource-1))
	for _, src := range []string{" ", "a ", "#", "\"", "/*"} {
		wantFault(t, strings.Repeat(src, api.MaxSource+1)[:api.MaxSource+1], api.ErrLong, 0)
	}
	got, f := lex.Scan(strings.Repeat("(", api.MaxSource))
	if len(got) != api.MaxSource+1 || f != (api.Fault{}) {
		t.Errorf("a text of MaxSource tokens: %d tokens, %v", len(got), f)
	}
}

func TestScanIsTheModel(t *testing.T) {
	for _, src := range texts(20000) {
		want, f := modelScan(src)
		wantScan(t, src, want, f)
	}
}

func TestScanOfPairsIsTheModel(t *testing.T) {
	for a := range 256 {
		for b := range 256 {
			src := string([]byte{byte(a), byte(b)})
			want, f := modelScan(src)
			wantScan(t, src, want, f)
		}
	}
}

// Every text of up to six bytes that mean something in comments, texts and numbers.
func TestScanOfShortTextsIsTheModel(t *testing.T) {
	const alphabet = "/*%\n\"\\a1-"
	all := []string{""}
	for from := 0; len(all[from]) < 6; from++ {
		for i := range len(alphabet) {
			all = append(all, all[from]+alphabet[i:i+1])
		}
	}
	for _, src := range all {
		want, f := modelScan(src)
		wantScan(t, src, want, f)
	}
}

// L2

func TestBetweenTokensIsBlank(t *testing.T) {
	for _, src := range texts(5000) {
		tokens, f := lex.Scan(src)
		end := 0
		for _, x := range tokens {
			if !lex.Blank(src, end, x.Off) {
				t.Errorf("%q: what lies from %d to %d is not blank", src, end, x.Off)
			}
			end = x.End
		}
		switch f.Code {
		case api.OK, api.ErrLong, api.ErrComment, api.ErrEscape:
			continue
		}
		if !lex.Blank(src, end, f.Off) {
			t.Errorf("%q: what lies from %d to the fault at %d is not blank", src, end, f.Off)
		}
	}
}

// L3

func TestSpellingsAlone(t *testing.T) {
	for _, src := range texts(5000) {
		tokens, _ := lex.Scan(src)
		for _, x := range tokens {
			if x.Kind == api.TEnd {
				continue
			}
			alone := x
			alone.Off, alone.End = 0, x.End-x.Off
			wantTokens(t, src[x.Off:x.End], alone)
		}
	}
}

func TestSpellingsWithBlanks(t *testing.T) {
	for _, src := range texts(5000) {
		tokens, f := lex.Scan(src)
		if f.Code == api.OK {
			tokens = tokens[:len(tokens)-1]
		}
		var spaced strings.Builder
		for i, x := range tokens {
			if i > 0 {
				spaced.WriteByte(' ')
			}
			spelling := src[x.Off:x.End]
			tokens[i].Off = spaced.Len()
			spaced.WriteString(spelling)
			tokens[i].End = spaced.Len()
		}
		wantTokens(t, spaced.String(), tokens...)
	}
}

// L4

func TestEachIsScan(t *testing.T) {
	for _, src := range append(texts(2000), strings.Repeat(" ", api.MaxSource+1)) {
		want, wantFault := lex.Scan(src)
		var got []api.Token
		f := lex.Each(src, func(x api.Token) bool {
			got = append(got, x)
			return true
		})
		if !slices.Equal(got, want) || f != wantFault {
			t.Errorf("Each(%q) = %v, %v; want %v, %v", short(src), got, f, want, wantFault)
		}
		if f := lex.Each(src, nil); f != wantFault {
			t.Errorf("Each(%q, nil) = %v; want %v", short(src), f, wantFault)
		}
	}
}

func TestEachStops(t *testing.T) {
	for _, src := range append(texts(1000), "a b c", "a b #") {
		want, _ := lex.Scan(src)
		for stop := range want {
			var got []api.Token
			f := lex.Each(src, func(x api.Token) bool {
				got = append(got, x)
				return len(got) <= stop
			})
			if !slices.Equal(got, want[:stop+1]) || f != (api.Fault{}) {
				t.Errorf("Each(%q), stopped at token %d = %v, %v; want %v and no fault", src, stop, got, f, want[:stop+1])
			}
		}
	}
}

func TestEachLetsPanicsThrough(t *testing.T) {
	calls := 0
	caught := any(nil)
	func() {
		defer func() { caught = recover() }()
		lex.Each("a b #", func(api.Token) bool {
			calls++
			panic("from yield")
		})
	}()
	if caught != "from yield" || calls != 1 {
		t.Errorf("a panic of yield ends in %v behind %d calls", caught, calls)
	}
}

func TestEachWithinEach(t *testing.T) {
	const outer, inner = "p(X). q /* c */ r #", "\"a\" not 7 \"\\q"
	wantOuter, wantFault := lex.Scan(outer)
	wantInner, _ := lex.Scan(inner)
	var got []api.Token
	f := lex.Each(outer, func(x api.Token) bool {
		got = append(got, x)
		var within []api.Token
		lex.Each(inner, func(y api.Token) bool {
			within = append(within, y)
			return true
		})
		if !slices.Equal(within, wantInner) {
			t.Errorf("the inner tokens are %v, want %v", within, wantInner)
		}
		return true
	})
	if !slices.Equal(got, wantOuter) || f != wantFault {
		t.Errorf("the outer tokens are %v, %v; want %v, %v", got, f, wantOuter, wantFault)
	}
}

// L5

func TestPlace(t *testing.T) {
	for _, c := range []struct {
		src               string
		off, line, column int
	}{
		{"ab\ncd", 0, 1, 1}, {"ab\ncd", 2, 1, 3}, {"ab\ncd", 3, 2, 1}, {"ab\ncd", 5, 2, 3},
		{"", 0, 1, 1}, {"\n\n", 0, 1, 1}, {"\n\n", 1, 2, 1}, {"\n\n", 2, 3, 1}, {"\r\n", 1, 1, 2}, {"\r\n", 2, 2, 1}, {"é\v\f", 4, 1, 5},
		{strings.Repeat("\n", api.MaxSource), api.MaxSource, api.MaxSource + 1, 1},
		{strings.Repeat(" ", api.MaxSource), api.MaxSource, 1, api.MaxSource + 1},
	} {
		if line, column := lex.Place(c.src, c.off); line != c.line || column != c.column {
			t.Errorf("Place(%q, %d) = %d, %d; want %d, %d", short(c.src), c.off, line, column, c.line, c.column)
		}
	}
}

func TestPlaceOutside(t *testing.T) {
	long := strings.Repeat("\n", api.MaxSource+1)
	for _, c := range []struct {
		src string
		off int
	}{
		{"ab\ncd", 6}, {"ab\ncd", -1}, {"", 1}, {"", -1}, {"a", math.MaxInt}, {"a", math.MinInt},
		{long, 0}, {long, 1}, {long, len(long)}, {long, -1}, {long, len(long) + 1},
	} {
		if line, column := lex.Place(c.src, c.off); line != 0 || column != 0 {
			t.Errorf("Place(%q, %d) = %d, %d; want 0, 0", short(c.src), c.off, line, column)
		}
	}
}

func TestPlaceOfEachOffset(t *testing.T) {
	for _, src := range texts(1000) {
		line, column := 1, 1
		for off := range len(src) + 1 {
			if l, c := lex.Place(src, off); l != line || c != column {
				t.Errorf("Place(%q, %d) = %d, %d; want %d, %d", src, off, l, c, line, column)
			}
			if off < len(src) && src[off] == 0x0a {
				line, column = line+1, 1
			} else {
				column++
			}
		}
	}
}

// L6

func TestMoreTextKeepsTokens(t *testing.T) {
	all := texts(5000)
	r := rand.New(rand.NewSource(6))
	for _, src := range all {
		tokens, f := lex.Scan(src)
		if f.Code != api.OK {
			continue
		}
		tokens = tokens[:len(tokens)-1]
		for _, more := range []string{"", "a", "*/", "\"", "/*", all[r.Intn(len(all))]} {
			longer, _ := lex.Scan(src + "\n" + more)
			if len(longer) < len(tokens) || !slices.Equal(longer[:len(tokens)], tokens) {
				t.Errorf("%q, then %q: %v; want first %v", src, more, longer, tokens)
			}
		}
	}
}

// L7

func TestBlank(t *testing.T) {
	for _, c := range []struct {
		src      string
		from, to int
		want     bool
	}{
		{"a % b", 1, 5, true}, {"a % b", 0, 5, false}, {"a % b", 2, 4, true}, {"a % b", 4, 5, false},
		{"/* */", 0, 5, true}, {"/* */", 0, 3, false}, {"/* */", 0, 4, false}, {"/* */", 1, 5, false}, {"/* */", 2, 3, true}, {"/* */", 0, 1, false},
		{"/* /* */ */", 0, 8, false}, {"/* /* */ */", 3, 8, true}, {"/* /* */ */", 0, 11, true}, {"/* /* */ */", 3, 11, false},
		{"% a\nb", 0, 3, true}, {"% a\nb", 0, 4, true}, {"% a\nb", 0, 5, false},
		{"", 0, 0, true}, {"x", 0, 0, true}, {"x", 1, 1, true}, {"x", 0, 1, false}, {" \t\r\n", 0, 4, true}, {"\v", 0, 1, false},
		{"\f", 0, 1, false}, {"\x00", 0, 1, false}, {"\xa0", 0, 1, false}, {"#", 0, 1, false}, {"/", 0, 1, false},
		{strings.Repeat(" ", api.MaxSource), 0, api.MaxSource, true}, {strings.Repeat("#", api.MaxSource), api.MaxSource, api.MaxSource, true},
	} {
		if got := lex.Blank(c.src, c.from, c.to); got != c.want {
			t.Errorf("Blank(%q, %d, %d) = %v", short(c.src), c.from, c.to, got)
		}
	}
}

func TestBlankOutside(t *testing.T) {
	long := strings.Repeat(" ", api.MaxSource+1)
	for _, c := range []struct {
		src      string
		from, to int
	}{
		{" ", 1, 0}, {" ", -1, 0}, {" ", -1, 1}, {" ", 0, 2}, {" ", 1, 2}, {" ", 2, 2}, {" ", 2, 1}, {" ", -2, -1}, {"", 0, 1}, {"", -1, -1},
		{" ", math.MinInt, math.MaxInt}, {" ", math.MaxInt, math.MinInt}, {" ", 0, math.MaxInt}, {" ", math.MinInt, 0}, {" ", math.MaxInt, math.MaxInt},
		{long, 0, 0}, {long, 0, 1}, {long, 0, len(long)}, {long, len(long), len(long)},
	} {
		if lex.Blank(c.src, c.from, c.to) {
			t.Errorf("Blank(%q, %d, %d) = true", short(c.src), c.from, c.to)
		}
	}
}

func TestBlankIsEndAlone(t *testing.T) {
	for _, src := range append(texts(5000), "", " ", "% a", "/**/", "/* % \n */ %") {
		tokens, f := lex.Scan(src)
		want := f.Code == api.OK && len(tokens) == 1 && tokens[0].Kind == api.TEnd
		if got := lex.Blank(src, 0, len(src)); got != want {
			t.Errorf("Blank of %q = %v; want %v", src, got, want)
		}
	}
}

func TestBlankOfAPartIsThatOfItAlone(t *testing.T) {
	for _, src := range texts(300) {
		for from := range len(src) + 1 {
			for to := from; to <= len(src); to++ {
				n, open := modelGap(src[from:to])
				want := !open && n == to-from
				if got := lex.Blank(src, from, to); got != want {
					t.Errorf("Blank(%q, %d, %d) = %v; want %v", src, from, to, got, want)
				}
			}
		}
	}
}

// P2, P3

func TestScanAnswersNewMemory(t *testing.T) {
	const src = "p(X, \"a\\n\") :- not q, X != 7. %"
	first, _ := lex.Scan(src)
	kept := slices.Clone(first)
	second, _ := lex.Scan(src)
	for i := range first {
		first[i] = api.Token{Kind: -1, Text: "written over"}
	}
	_ = append(first[:1], api.Token{Kind: -2})
	third, _ := lex.Scan(src)
	if !slices.Equal(second, kept) || !slices.Equal(third, kept) {
		t.Errorf("what was written into an answer is seen in another: %v, %v; want %v", second, third, kept)
	}
}

// P5: nothing is kept from call to call, so calls side by side know nothing of each other.

func TestCallsSideBySide(t *testing.T) {
	all := texts(100)
	done := make(chan int)
	for range 8 {
		go func() {
			wrong := 0
			for _, src := range all {
				want, wantFault := modelScan(src)
				if got, f := lex.Scan(src); !slices.Equal(got, want) || f != wantFault {
					wrong++
				}
			}
			done <- wrong
		}()
	}
	for range 8 {
		if wrong := <-done; wrong > 0 {
			t.Errorf("%d texts are cut otherwise while others are cut", wrong)
		}
	}
}
