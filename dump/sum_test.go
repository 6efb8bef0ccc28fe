package dump_test

import (
	"hash/crc32"
	"math/rand"
	"strings"
	"testing"

	"edict/dump"
)

// P20.1

func TestSumExamples(t *testing.T) {
	for _, c := range []struct {
		parts []string
		want  uint32
	}{
		{nil, 0}, {[]string{"123456789"}, 0xCBF43926}, {[]string{"1234", "", "56789"}, 0xCBF43926}, {[]string{"a"}, 0xE8B7BE43}, {[]string{"\x00"}, 0xD202EF8D}, // the chapter's
		{[]string{""}, 0}, {[]string{"", "", ""}, 0}, {[]string{"", "a", ""}, 0xE8B7BE43}, {[]string{"\xFF\xFF\xFF\xFF"}, 0xFFFFFFFF}, {[]string{"\xFF", "\xFF\xFF", "\xFF"}, 0xFFFFFFFF},
		{[]string{"The quick brown fox jumps over the lazy dog"}, 0x414FA339}, {[]string{strings.Repeat("\x00", 32)}, 0x190A55AD}, {[]string{strings.Repeat("\xFF", 32)}, 0xFF6CAB0B},
	} {
		if got := dump.Sum(c.parts...); got != c.want {
			t.Errorf("Sum(%q) = %#x, want %#x", c.parts, got, c.want)
		}
	}
}

func TestSumOfEachByte(t *testing.T) {
	for b := range 256 {
		for _, text := range []string{string([]byte{byte(b)}), "x" + string([]byte{byte(b)}) + "y", strings.Repeat(string([]byte{byte(b)}), 9)} {
			if got, want := dump.Sum(text), plainSum(text); got != want {
				t.Errorf("Sum(%q) = %#x, want %#x", text, got, want)
			}
		}
	}
}

// Wherever a text is cut, the sum of its parts is its own, and with its sum behind it is one and the same number.
func TestSumOfParts(t *testing.T) {
	r := rand.New(rand.NewSource(20))
	for range 300 {
		all := make([]byte, r.Intn(200))
		r.Read(all)
		text := string(all)
		want := plainSum(text)
		if want != crc32.ChecksumIEEE(all) {
			t.Fatalf("the plain sum of %q is %#x", text, want)
		}
		var parts []string
		for rest := text; rest != "" || r.Intn(2) == 0; {
			at := r.Intn(len(rest) + 1)
			parts = append(parts, rest[:at])
			rest = rest[at:]
		}
		if got := dump.Sum(append(parts, "")...); got != want {
			t.Errorf("Sum(%q) = %#x, want %#x", parts, got, want)
		}
		for cut := range len(text) + 1 {
			if got := dump.Sum(text[:cut], text[cut:]); got != want {
				t.Errorf("Sum(%q, %q) = %#x, want %#x", text[:cut], text[cut:], got, want)
			}
		}
		if got := dump.Sum(text, low(uint64(want), 4)); got != 0x2144DF1C {
			t.Errorf("the sum of %q with its sum behind is %#x", text, got)
		}
	}
}
