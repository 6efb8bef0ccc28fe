package dump_test

import (
	"encoding/binary"
	"fmt"
	"slices"
	"strings"
	"testing"

	"edict/api"
	"edict/dump"
	"edict/engine"
)

// Bytes held against plain ones by the chapter's words, over wild engines.

// step is a rule's number, then the ids.
type step []int

// stepsOf is an engine's log.
func stepsOf(e *engine.Engine) (steps []step) {
	for _, l := range e.Log() {
		s := step{l.Rule}
		for _, c := range l.Subst {
			s = append(s, slices.Index(e.Core().Consts, c))
		}
		steps = append(steps, s)
	}
	return steps
}

func short(n int) (out string) {
	for ; n > 127; n >>= 7 {
		out += string([]byte{byte(n | 128)})
	}
	return out + string([]byte{byte(n)})
}

func body(steps []step) (out string) {
	for _, s := range steps {
		for _, n := range s {
			out += short(n)
		}
	}
	return out
}

func plainSave(e *engine.Engine) string {
	src, facts := e.Texts()
	steps := stepsOf(e)
	return form(src, facts, len(steps), body(steps))
}

// plainHead is 1 to 4 of P20.3.
func plainHead(data string) (src string, facts string, count int, behind string, code api.Errno) {
	if len(data) < 8 || data[:8] != magic {
		return "", "", 0, "", api.ErrMagic
	}
	if len(data) < 36 {
		return "", "", 0, "", api.ErrForm
	}
	if plainSum(data[:len(data)-4]) != binary.LittleEndian.Uint32([]byte(data[len(data)-4:])) {
		return "", "", 0, "", api.ErrSum
	}
	b := []byte(data)
	one, two := int64(binary.LittleEndian.Uint32(b[8:])), int64(binary.LittleEndian.Uint32(b[12:]))
	steps, size := binary.LittleEndian.Uint64(b[16:]), binary.LittleEndian.Uint64(b[24:])
	between := data[32 : len(data)-4]
	if one > 65536 || two > 65536 || size > 1<<40 || one+two+int64(size) != int64(len(between)) || steps > size {
		return "", "", 0, "", api.ErrForm
	}
	return between[:one], between[one : one+two], int(steps), between[one+two:], api.OK
}

// plainShort is a short number, and the bytes behind it; false where there is none.
func plainShort(rest string) (int, string, bool) {
	for n := range 3 {
		if n < len(rest) && rest[n] < 128 {
			value := 0
			for at := n; at >= 0; at-- {
				value = value*128 + int(rest[at]&127)
			}
			return value, rest[n+1:], short(value) == rest[:n+1]
		}
	}
	return 0, "", false
}

func plainSteps(c api.Core, count int, rest string) (steps []step, good bool) {
	for range count {
		rule, behind, ok := plainShort(rest)
		if !ok || rule >= len(c.Rules) {
			return nil, false
		}
		s := step{rule}
		for range c.Rules[rule].Vars {
			var id int
			if id, behind, ok = plainShort(behind); !ok || id >= len(c.Consts) {
				return nil, false
			}
			s = append(s, id)
		}
		rest = behind
		steps = append(steps, s)
	}
	return steps, rest == ""
}

// plainOpen is P20.3, the steps taken one by one, each by its place among those that are eligible.
func plainOpen(data string) (*engine.Engine, api.Errno) {
	src, facts, count, behind, code := plainHead(data)
	if code != api.OK {
		return nil, code
	}
	e, _, fault := engine.Load(src, facts)
	if fault.Code != api.OK {
		return nil, fault.Code
	}
	steps, good := plainSteps(e.Core(), count, behind)
	if !good {
		return nil, api.ErrForm
	}
	for _, s := range steps {
		pick := slices.IndexFunc(e.Eligible(), func(a api.Activation) bool {
			named := step{a.Rule}
			for _, c := range a.Subst {
				named = append(named, slices.Index(e.Core().Consts, c))
			}
			return slices.Equal(named, s)
		})
		if pick < 0 {
			return nil, api.ErrTrail
		}
		e.Run([]int{pick}, 1, most)
	}
	return e, api.OK
}

// P20.2, P20.4, P20.5
func TestWildEngines(t *testing.T) {
	w := newWild(20)
	steps, ahead := 0, 0
	for num, e := range w.engines(t, 250) {
		before := seen(e)
		data, code := dump.Save(e)
		if want := plainSave(e); data != want || code != api.OK {
			t.Fatalf("engine %d: Save = %x, %d, want %x", num, data, code, want)
		}
		src, facts := e.Texts()
		wantHead(t, data, src, facts, len(e.Log()))
		x := open(t, data)
		if save(t, x) != data || seen(e) != before {
			t.Fatalf("engine %d: saved, opened and saved it is another", num)
		}
		steps += len(e.Log())
		ahead += len(e.Eligible())
		wantAlike(t, e, x, w.run(), w.run(), run{[]int{w.Intn(9), -w.Intn(9)}, most, most})
		e.Reset()
		x.Reset()
		wantAlike(t, e, x, w.run())
		wantAlike(t, open(t, data), open(t, data).Fork(), w.run())
	}
	if steps < 1200 || ahead < 400 {
		t.Errorf("%d steps, %d acts that wait: too few", steps, ahead)
	}
}

// spoilSteps is steps of which some are others.
func (w wild) spoilSteps(c api.Core, steps []step) []step {
	steps = slices.Clone(steps)
	at := func() int { return w.Intn(len(steps)) }
	for len(steps) > 0 && w.Intn(3) > 0 {
		one, other := at(), at()
		switch w.Intn(7) {
		case 0, 1:
			steps[one], steps[other] = steps[other], steps[one]
		case 2:
			steps = slices.Delete(steps, one, one+1)
		case 3:
			steps = slices.Insert(steps, one, steps[other])
		case 4:
			steps[one] = slices.Clone(steps[one])
			steps[one][w.Intn(len(steps[one]))] = w.Intn(1 + max(len(c.Consts), len(c.Rules)))
		case 5:
			steps = steps[:one]
		case 6:
			w.Shuffle(min(4, len(steps)-one), func(i, j int) { steps[one+i], steps[one+j] = steps[one+j], steps[one+i] })
		}
	}
	return steps
}

// spoilBytes is bytes of which some are others.
func (w wild) spoilBytes(text string) string {
	for w.Intn(3) > 0 {
		at := w.Intn(len(text) + 1)
		with := w.of("\x00", "\x80", "\x01", "\x81", "\xFF", "\x02", "\x7F", ".", "(", " ")
		text = w.of(text[:at]+with+text[at:], text[:at]+with+text[min(at+1, len(text)):], text[:at]+text[min(at+1, len(text)):], text[:at])
	}
	return text
}

// spoil is bytes that are not far from what is saved of an engine.
func (w wild) spoil(e *engine.Engine) string {
	src, facts := e.Texts()
	steps := stepsOf(e)
	count, behind := len(steps), body(steps)
	small := func() int { return max(0, w.Intn(13)-9) * (2*w.Intn(2) - 1) }
	switch w.Intn(8) {
	case 0, 1, 2:
		steps = w.spoilSteps(e.Core(), steps)
		return form(src, facts, len(steps), body(steps))
	case 3:
		behind = w.spoilBytes(behind)
		return form(src, facts, max(0, count+small()), behind)
	case 4:
		return form(w.of(w.spoilBytes(src), src+" d(X) :- a(X).", src+" f(X) :- not a(X).", src+" b(1).", src+"\nf(z)."), facts, count, behind)
	case 5:
		return form(src, w.of(w.spoilBytes(facts), facts+" a.", facts+" a(y)."), count, behind)
	case 6:
		return numbered(len(src)+small(), len(facts)+small(), uint64(count+small()), uint64(len(behind)+small()), src+facts+behind)
	}
	data := w.spoilBytes(form(src, facts, count, behind))
	if w.Intn(2) == 0 {
		return data
	}
	return summed(data[:max(0, len(data)-4)])
}

// P20.3, P20.4, and the second half of P20.5
func TestWildBytes(t *testing.T) {
	w := newWild(21)
	met := map[string]int{}
	for num, e := range w.engines(t, 1100) {
		was := save(t, e)
		for range 8 {
			data := w.spoil(e)
			want, code := plainOpen(data)
			x, got := dump.Open(data)
			if got != code || (x == nil) != (want == nil) {
				t.Fatalf("engine %d: Open(%q) = %v, %d, want %d", num, data, x, got, code)
			}
			src, facts, count, _, headCode := plainHead(data)
			gotSrc, gotFacts, gotCount, gotCode := dump.Head(data)
			if gotSrc != src || gotFacts != facts || gotCount != count || gotCode != headCode {
				t.Fatalf("engine %d: Head(%q) = %q, %q, %d, %d, want %q, %q, %d, %d", num, data, gotSrc, gotFacts, gotCount, gotCode, src, facts, count, headCode)
			}
			met[fmt.Sprint(code, " ", headCode)]++
			if x == nil {
				continue
			}
			if save(t, x) != data {
				t.Fatalf("engine %d: what Open(%q) answers is saved as %q", num, data, save(t, x))
			}
			if data != was {
				met["another that is opened"]++
			}
			if got, want := fmt.Sprint(x.Facts(), x.Eligible(), x.Log()), fmt.Sprint(want.Facts(), want.Eligible(), want.Log()); got != want {
				t.Fatalf("engine %d: what Open(%q) answers is %s, want %s", num, data, got, want)
			}
			if w.Intn(25) == 0 {
				wantAlike(t, want, x, w.run())
			}
		}
	}
	for _, k := range []string{"0 0", "60 60", "61 61", "62 62", "62 0", "63 0", "20 0", "21 0", "30 0", "33 0", "another that is opened"} {
		if met[k] < 50 {
			t.Errorf("%q is met %d times: too few", k, met[k])
		}
	}
	if t.Failed() || testing.Verbose() {
		t.Log(met)
	}
}

// Any bytes: none is taken for a saved engine, none brings a call to a stop.
func TestAnyBytes(t *testing.T) {
	w := newWild(22)
	for range 20000 {
		all := make([]byte, w.Intn(80))
		w.Read(all)
		if w.Intn(3) > 0 {
			for at := range all {
				all[at] &= byte(w.Intn(4))
			}
		}
		data := w.of("", magic, magic, magic) + string(all)
		if w.Intn(2) == 0 {
			data = summed(data)
		}
		want, code := plainOpen(data)
		x, got := dump.Open(data)
		_, _, _, head := dump.Head(data)
		_, _, _, _, wantHead := plainHead(data)
		if got != code || (x == nil) != (want == nil) || head != wantHead {
			t.Fatalf("Open(%q) = %v, %d, want %d; Head = %d, want %d", data, x, got, code, head, wantHead)
		}
	}
}

// Steps in whatever order they may come are saved as they came, and opened so.
func TestWildPicks(t *testing.T) {
	w := newWild(23)
	all := map[string]int{}
	for range 60 {
		e := load(t, ways, "")
		for e.Run([]int{w.Intn(99) - 50}, 1, most).Steps > 0 {
			if w.Intn(6) == 0 {
				wantAlike(t, e.Fork(), open(t, save(t, e)), w.run())
			}
		}
		data := save(t, e)
		if strings.Count(data, "edge") != 6 {
			t.Fatalf("Save = %q", data)
		}
		all[data]++
		wantAlike(t, e, open(t, data))
	}
	if len(all) < 50 {
		t.Errorf("%d logs are met: too few", len(all))
	}
}
