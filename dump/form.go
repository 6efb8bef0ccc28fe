package dump

import (
	"strings"

	"edict/api"
)

const (
	magic   = "edict\x01\r\n"
	begin   = len(magic) + 4 + 4 + 8 + 8 // where the texts begin
	sumSize = 4
)

// saved is the parts of a saved engine.
type saved struct {
	src   string
	facts string
	count int // of the steps, by its number: whether they are so many is not looked at yet
	steps string
}

// write is the bytes of a saved engine.
func write(src string, facts string, acts []api.Act) string {
	steps := string(appendSteps(nil, acts))
	out := []byte(magic)
	out = appendFixed(out, 4, uint64(len(src)))
	out = appendFixed(out, 4, uint64(len(facts)))
	out = appendFixed(out, 8, uint64(len(acts)))
	out = appendFixed(out, 8, uint64(len(steps)))
	data := string(out) + src + facts + steps
	return data + string(appendFixed(nil, sumSize, uint64(Sum(data))))
}

// split is the parts of bytes whose sum is right and whose numbers fit one another.
func split(data string) saved {
	switch {
	case !strings.HasPrefix(data, magic):
		panic(api.ErrMagic)
	case len(data) < begin+sumSize:
		panic(api.ErrForm)
	}
	body, sum := data[:len(data)-sumSize], data[len(data)-sumSize:]
	if uint64(Sum(body)) != fixed(sum) {
		panic(api.ErrSum)
	}
	src, facts := fixed(body[8:12]), fixed(body[12:16])
	count, size := fixed(body[16:24]), fixed(body[24:32])
	parts := body[begin:]
	// Both texts are looked at ahead of the sum of all three, and what is left is asked without a sum: so no number wraps round.
	if src > api.MaxSource || facts > api.MaxSource || src+facts > uint64(len(parts)) || uint64(len(parts))-src-facts != size || count > size {
		panic(api.ErrForm)
	}
	return saved{
		src:   strings.Clone(parts[:src]), // an engine keeps its texts, and must not keep all the bytes with them
		facts: strings.Clone(parts[src : src+facts]),
		count: int(count),
		steps: parts[src+facts:],
	}
}

// appendFixed is what is written so far, and a number of so many bytes behind it, the lowest one first.
func appendFixed(written []byte, size int, n uint64) []byte {
	for range size {
		written = append(written, byte(n))
		n >>= 8
	}
	return written
}

// fixed is the number that bytes mean.
func fixed(bytes string) uint64 {
	n := uint64(0)
	for at := range len(bytes) {
		n |= uint64(bytes[at]) << (8 * at)
	}
	return n
}
