// Package sym: constants, their order, their text, and their ids: see DOC.md, chapter 1.
package sym

import (
	"cmp"
	"slices"
	"strconv"

	"edict/api"
)

// notWord is a word of the language, so it is the name of nothing.
const notWord = "not"

const hexDigits = "0123456789abcdef"

// Valid tells whether c is a constant.
func Valid(c api.Const) bool {
	switch c.Kind {
	case api.KInt:
		return c.Text == ""
	case api.KName:
		return c.Int == 0 && IsName(c.Text)
	case api.KText:
		return c.Int == 0 && len(c.Text) <= api.MaxText
	}
	return false
}

// IsName tells whether s is a name (of a constant or a predicate).
func IsName(s string) bool {
	return isWord(s) && isLower(s[0]) && s != notWord
}

// IsVar tells whether s is a variable.
func IsVar(s string) bool {
	return isWord(s) && (isUpper(s[0]) || s[0] == '_')
}

// isWord tells what names and variables have in common: their length and the bytes they are made of.
func isWord(s string) bool {
	if len(s) < 1 || len(s) > api.MaxName {
		return false
	}
	for i := range len(s) {
		if !isWordByte(s[i]) {
			return false
		}
	}
	return true
}

func isWordByte(b byte) bool {
	return isLower(b) || isUpper(b) || isDigit(b) || b == '_'
}

func isLower(b byte) bool { return 'a' <= b && b <= 'z' }

func isUpper(b byte) bool { return 'A' <= b && b <= 'Z' }

func isDigit(b byte) bool { return '0' <= b && b <= '9' }

// Compare tells -1, 0 or 1: the total order of all values of api.Const.
// The kinds' numbers rise as the order wants it: integers, names, texts.
func Compare(a api.Const, b api.Const) int {
	if a.Kind != b.Kind {
		return cmp.Compare(a.Kind, b.Kind)
	}
	if a.Int != b.Int {
		return cmp.Compare(a.Int, b.Int)
	}
	return cmp.Compare(a.Text, b.Text)
}

// Sort is a new list of the same constants, in their order.
func Sort(cs []api.Const) []api.Const {
	sorted := make([]api.Const, len(cs))
	copy(sorted, cs)
	slices.SortFunc(sorted, Compare)
	return sorted
}

// Text is the canonical text of a constant; "" where c is none.
func Text(c api.Const) string {
	if !Valid(c) {
		return ""
	}
	switch c.Kind {
	case api.KInt:
		return strconv.FormatInt(c.Int, 10)
	case api.KText:
		return quoted(c.Text)
	}
	return c.Text
}

// quoted is not strconv.Quote: that one keeps runes whole and has escapes of its own.
func quoted(s string) string {
	out := make([]byte, 0, len(s)+2)
	out = append(out, '"')
	for i := range len(s) {
		out = appendEscaped(out, s[i])
	}
	out = append(out, '"')
	return string(out)
}

func appendEscaped(out []byte, b byte) []byte {
	switch {
	case b == '"' || b == '\\':
		return append(out, '\\', b)
	case b == '\n':
		return append(out, '\\', 'n')
	case b == '\t':
		return append(out, '\\', 't')
	case b == '\r':
		return append(out, '\\', 'r')
	case 0x20 <= b && b <= 0x7e:
		return append(out, b)
	}
	return append(out, '\\', 'x', hexDigits[b>>4], hexDigits[b&0xf])
}

// Read is the constant whose canonical text is s.
func Read(s string) (api.Const, api.Errno) {
	if s == "" { // the text of what is no constant
		return api.Const{}, api.ErrConst
	}
	c := readLoosely(s)
	if Text(c) != s {
		return api.Const{}, api.ErrConst
	}
	return c, api.OK
}

// readLoosely finds the one constant that s, which is not empty, could be the text of.
// It takes more than canonical texts, since Read holds what it finds against Text.
func readLoosely(s string) api.Const {
	switch {
	case s[0] == '"':
		text, err := strconv.Unquote(s)
		if err != nil {
			return api.Const{}
		}
		return api.Const{Kind: api.KText, Text: text}
	case s[0] == '-' || isDigit(s[0]):
		n, err := strconv.ParseInt(s, 10, 64)
		if err != nil {
			return api.Const{}
		}
		return api.Const{Kind: api.KInt, Int: n}
	}
	return api.Const{Kind: api.KName, Text: s}
}
