package lex

import (
	"strconv"
	"strings"

	"edict/api"
)

// notWord is the one word that is neither a name nor a variable.
const notWord = "not"

// firstInText is the least byte that may stand in a text without an escape.
const firstInText = 0x20

// mark is a token that is known by its spelling alone.
type mark struct {
	spelling string
	kind     int
	op       int
}

// marks has the spellings of two bytes ahead of those of one, since the longer one is the token where both fit.
var marks = [...]mark{
	{":-", api.TArrow, 0},
	{"!=", api.TOp, api.OpNe},
	{"<=", api.TOp, api.OpLe},
	{">=", api.TOp, api.OpGe},
	{"<", api.TOp, api.OpLt},
	{">", api.TOp, api.OpGt},
	{"=", api.TOp, api.OpEq},
	{"(", api.TLParen, 0},
	{")", api.TRParen, 0},
	{",", api.TComma, 0},
	{".", api.TDot, 0},
}

// next is the token behind the gap that begins at from.
func next(src string, from int) (api.Token, api.Fault) {
	at, closed := gap(src, from)
	switch {
	case !closed:
		return refuse(api.ErrComment, at)
	case at == len(src):
		return api.Token{Kind: api.TEnd, Off: at, End: at}, api.Fault{}
	case isLower(src[at]) || isUpper(src[at]) || src[at] == '_':
		return word(src, at)
	case beginsInteger(src[at:]):
		return integer(src, at)
	case src[at] == '"':
		return text(src, at)
	}
	return punctuation(src, at)
}

func refuse(code api.Errno, off int) (api.Token, api.Fault) {
	return api.Token{}, api.Fault{Code: code, Off: off}
}

func word(src string, at int) (api.Token, api.Fault) {
	end := runEnd(src, at)
	if end-at > api.MaxName {
		return refuse(api.ErrName, at)
	}
	w := src[at:end]
	switch {
	case w == notWord:
		return api.Token{Kind: api.TNot, Off: at, End: end}, api.Fault{}
	case isLower(w[0]):
		return api.Token{Kind: api.TName, Text: w, Off: at, End: end}, api.Fault{}
	}
	return api.Token{Kind: api.TVar, Text: w, Off: at, End: end}, api.Fault{}
}

func beginsInteger(rest string) bool {
	return isDigit(rest[0]) || rest[0] == '-' && len(rest) > 1 && isDigit(rest[1])
}

func integer(src string, at int) (api.Token, api.Fault) {
	end := runEnd(src, at+1)
	// In base 10 ParseInt takes digits alone behind the sign, and however many leading zeros.
	n, err := strconv.ParseInt(src[at:end], 10, 64)
	if err != nil {
		return refuse(api.ErrInt, at)
	}
	return api.Token{Kind: api.TInt, Int: n, Off: at, End: end}, api.Fault{}
}

func text(src string, at int) (api.Token, api.Fault) {
	var value []byte
	for i := at + 1; i < len(src) && src[i] >= firstInText; {
		b, size := src[i], 1
		switch b {
		case '"':
			return api.Token{Kind: api.TText, Text: string(value), Off: at, End: i + 1}, api.Fault{}
		case '\\':
			b, size = escape(src[i:])
			if size == 0 {
				return refuse(api.ErrEscape, i)
			}
		}
		if len(value) == api.MaxText {
			return refuse(api.ErrText, at)
		}
		value = append(value, b)
		i += size
	}
	return refuse(api.ErrQuote, at)
}

// escape is the byte that the escape at the beginning of rest stands for, and how many bytes spell it: 0 where none begins there.
func escape(rest string) (byte, int) {
	if len(rest) < 2 {
		return 0, 0
	}
	switch rest[1] {
	case '"', '\\':
		return rest[1], 2
	case 'n':
		return '\n', 2
	case 't':
		return '\t', 2
	case 'r':
		return '\r', 2
	case 'x':
		return hexEscape(rest)
	}
	return 0, 0
}

func hexEscape(rest string) (byte, int) {
	if len(rest) < 4 {
		return 0, 0
	}
	n, err := strconv.ParseUint(rest[2:4], 16, 8)
	if err != nil {
		return 0, 0
	}
	return byte(n), 4
}

func punctuation(src string, at int) (api.Token, api.Fault) {
	for _, m := range marks {
		if strings.HasPrefix(src[at:], m.spelling) {
			return api.Token{Kind: m.kind, Op: m.op, Off: at, End: at + len(m.spelling)}, api.Fault{}
		}
	}
	return refuse(api.ErrByte, at)
}

// runEnd is where the longest run of word bytes from an offset on ends.
func runEnd(src string, at int) int {
	for at < len(src) && isWordByte(src[at]) {
		at++
	}
	return at
}

func isWordByte(b byte) bool {
	return isLower(b) || isUpper(b) || isDigit(b) || b == '_'
}

func isLower(b byte) bool { return 'a' <= b && b <= 'z' }

func isUpper(b byte) bool { return 'A' <= b && b <= 'Z' }

func isDigit(b byte) bool { return '0' <= b && b <= '9' }
