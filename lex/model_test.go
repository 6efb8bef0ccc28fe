package lex_test

import (
	"math/big"
	"math/rand"
	"regexp"
	"strconv"
	"strings"

	"edict/api"
)

// The model of chapter 2 that the tests hold lex against: slow, made of patterns, and written apart from the program.

var (
	wordPattern    = regexp.MustCompile(`\A[a-zA-Z_][a-zA-Z0-9_]*`)
	integerPattern = regexp.MustCompile(`\A-?[0-9][a-zA-Z0-9_]*`)
	digitsPattern  = regexp.MustCompile(`\A-?[0-9]+\z`)
	partPattern    = regexp.MustCompile(`\A(?:[^"\\\x00-\x1f]|\\["\\ntr]|\\x[0-9a-fA-F]{2})`)
	markPattern    = regexp.MustCompile(`\A(?::-|!=|<=|>=|[<>=(),.])`)
	blanksPattern  = regexp.MustCompile(`\A(?:[ \t\n\r]|%[^\n]*)+`)
)

var markTokens = map[string]api.Token{
	"(":  {Kind: api.TLParen},
	")":  {Kind: api.TRParen},
	",":  {Kind: api.TComma},
	".":  {Kind: api.TDot},
	":-": {Kind: api.TArrow},
	"=":  {Kind: api.TOp, Op: api.OpEq},
	"!=": {Kind: api.TOp, Op: api.OpNe},
	"<":  {Kind: api.TOp, Op: api.OpLt},
	"<=": {Kind: api.TOp, Op: api.OpLe},
	">":  {Kind: api.TOp, Op: api.OpGt},
	">=": {Kind: api.TOp, Op: api.OpGe},
}

// modelComment is how long the block comment at the beginning of s is; 0 where it is not closed.
func modelComment(s string) int {
	at := 2
	for at < len(s) {
		if strings.HasPrefix(s[at:], "/*") {
			inner := modelComment(s[at:])
			if inner == 0 {
				return 0
			}
			at += inner
		} else if strings.HasPrefix(s[at:], "*/") {
			return at + 2
		} else {
			at++
		}
	}
	return 0
}

// modelGap is how long the gap at the beginning of s is, and whether an open comment follows it.
func modelGap(s string) (int, bool) {
	at := 0
	for {
		rest := s[at:]
		if n := len(blanksPattern.FindString(rest)); n > 0 {
			at += n
		} else if !strings.HasPrefix(rest, "/*") {
			return at, false
		} else if n := modelComment(rest); n > 0 {
			at += n
		} else {
			return at, true
		}
	}
}

// modelText is the text at the beginning of s: offsets are told from there on.
func modelText(s string) (api.Token, api.Fault) {
	var value []byte
	at := 1
	for {
		part := partPattern.FindString(s[at:])
		if part == "" {
			break
		}
		value = append(value, modelPart(part)...)
		at += len(part)
	}
	switch {
	case len(value) > api.MaxText:
		return api.Token{}, api.Fault{Code: api.ErrText}
	case at < len(s) && s[at] == '"':
		return api.Token{Kind: api.TText, Text: string(value), End: at + 1}, api.Fault{}
	case at < len(s) && s[at] == '\\':
		return api.Token{}, api.Fault{Code: api.ErrEscape, Off: at}
	}
	return api.Token{}, api.Fault{Code: api.ErrQuote}
}

func modelPart(part string) string {
	if part[0] != '\\' {
		return part
	}
	if part[1] == 'x' {
		n, err := strconv.ParseUint(part[2:], 16, 8)
		if err != nil {
			panic(err)
		}
		return string([]byte{byte(n)})
	}
	return map[byte]string{'"': "\"", '\\': "\\", 'n': "\x0a", 't': "\x09", 'r': "\x0d"}[part[1]]
}

// modelToken is the token at the beginning of s, which has no gap ahead: offsets are told from there on.
func modelToken(s string) (api.Token, api.Fault) {
	if s == "" {
		return api.Token{Kind: api.TEnd}, api.Fault{}
	}
	if w := wordPattern.FindString(s); w != "" {
		switch {
		case len(w) > api.MaxName:
			return api.Token{}, api.Fault{Code: api.ErrName}
		case w == "not":
			return api.Token{Kind: api.TNot, End: 3}, api.Fault{}
		case strings.ToLower(w[:1]) == w[:1] && w[0] != '_':
			return api.Token{Kind: api.TName, Text: w, End: len(w)}, api.Fault{}
		}
		return api.Token{Kind: api.TVar, Text: w, End: len(w)}, api.Fault{}
	}
	if w := integerPattern.FindString(s); w != "" {
		n, ok := new(big.Int).SetString(w, 10)
		if !digitsPattern.MatchString(w) || !ok || !n.IsInt64() {
			return api.Token{}, api.Fault{Code: api.ErrInt}
		}
		return api.Token{Kind: api.TInt, Int: n.Int64(), End: len(w)}, api.Fault{}
	}
	if s[0] == '"' {
		return modelText(s)
	}
	if m := markPattern.FindString(s); m != "" {
		t := markTokens[m]
		t.End = len(m)
		return t, api.Fault{}
	}
	return api.Token{}, api.Fault{Code: api.ErrByte}
}

func modelScan(src string) ([]api.Token, api.Fault) {
	if len(src) > api.MaxSource {
		return nil, api.Fault{Code: api.ErrLong}
	}
	var out []api.Token
	at := 0
	for {
		n, open := modelGap(src[at:])
		at += n
		if open {
			return out, api.Fault{Code: api.ErrComment, Off: at}
		}
		t, f := modelToken(src[at:])
		if f.Code != api.OK {
			f.Off += at
			return out, f
		}
		t.Off += at
		t.End += at
		out = append(out, t)
		if t.Kind == api.TEnd {
			return out, api.Fault{}
		}
		at = t.End
	}
}

// pieces are what random texts are put together from: whole tokens, halves of tokens, and what is none.
var pieces = []string{
	"p", "q1", "aZ_9", "not", "notp", "no", "X", "_", "_x", "Not", "0", "7", "-", "-5", "007", "-0", "12ab", "1_",
	"9223372036854775807", "9223372036854775808", "-9223372036854775808", "-9223372036854775809",
	"(", ")", ",", ".", ":", ":-", "=", "!", "!=", "<", "<=", ">", ">=", "=<",
	"\"", "\"\"", "\"ab\"", "\"a b\"", "\\", "\\n", "\\x", "\\x4", "\\x41", "\\xfF", "\\q", "\\\"", "\"\\t\\r\\\\\"",
	" ", "\t", "\n", "\r", "  ", "%", "% c\n", "%\r\n", "/", "*", "/*", "*/", "/**/", "/* % \" */", "/*/* */ */", "/*/", "**/", "//*",
	"\v", "\f", "\x00", "\x1f", "\x7f", "\xa0", "\xff", "é", "#", "[", "'", ";", "&", "$", "@", "`", "{", "~", "^", "+", "?", "|",
}

// good are pieces that no fault comes of, wherever they stand (blanks between them).
var good = []string{
	"p", "q1", "aZ_9", "not", "notp", "X", "_", "_x", "0", "-5", "007", "-0", "9223372036854775807", "-9223372036854775808",
	"(", ")", ",", ".", ":-", "=", "!=", "<", "<=", ">", ">=", "\"\"", "\"ab\"", "\"\\x00\\n\\\"%/*\"", "\"\xff\x7f\"",
	"% c\n", "/**/", "/* % \" */", "/*/* */ */", "\n", "\t", "\r", "",
}

func randomText(r *rand.Rand, from []string, between []string) string {
	var b strings.Builder
	for range r.Intn(12) {
		b.WriteString(from[r.Intn(len(from))])
		b.WriteString(between[r.Intn(len(between))])
	}
	return b.String()
}

var (
	nothing = []string{""}
	maybe   = []string{"", "", " "}
	blank   = []string{" ", "\n", "\t", "\r\n", "/**/", "%\n"}
)

// texts are random ones of all kinds, the same at every run: wild ones, and ones that have few faults.
func texts(n int) []string {
	r := rand.New(rand.NewSource(2))
	var out []string
	for range n {
		out = append(out, randomText(r, pieces, nothing), randomText(r, pieces, maybe), randomText(r, good, blank))
		bytes := make([]byte, r.Intn(8))
		for i := range bytes {
			bytes[i] = byte(r.Intn(256))
		}
		out = append(out, string(bytes))
	}
	return out
}
