package dump_test

import (
	"slices"
	"sync"
	"testing"
	"unsafe"

	"edict/dump"
)

// P20.7, and DOC.md's P2, P3 and P5: nothing is kept, and engines have nothing to do with one another.

func TestOpenedEnginesLieApart(t *testing.T) {
	e := load(t, ways, "")
	e.Run([]int{3, 1}, 6, most)
	data := save(t, e)
	one, two := open(t, data), open(t, data)
	was := seen(e)
	one.Run([]int{-1}, most, most)
	if seen(two) != was || seen(e) != was || save(t, two) != data || save(t, e) != data {
		t.Error("a run of one opened engine is seen by others")
	}
	two.Reset()
	e.Run(nil, 1, most)
	if len(one.Log()) != 13 || len(two.Log()) != 0 || len(e.Log()) != 7 {
		t.Error("a Reset of one opened engine is seen by others")
	}
	if seen(open(t, data)) != was {
		t.Error("what is opened hangs on engines that were opened ahead of it")
	}
}

// A call answers the same whatever was asked ahead of it, refused or not.
func TestNothingIsKept(t *testing.T) {
	good := save(t, three(t))
	was := seen(open(t, good))
	w := newWild(24)
	for range 50 {
		bad := w.spoil(three(t))
		dump.Open(bad)
		dump.Head(bad)
		dump.Save(nil)
		dump.Sum(bad, bad)
		if seen(open(t, good)) != was || save(t, three(t)) != good {
			t.Fatalf("behind %q the same bytes are another engine", bad)
		}
		wantHead(t, good, rules, given, 1)
	}
}

// The parts of a sum are not written into, nor what is behind them.
func TestPartsAreLeftAlone(t *testing.T) {
	parts := append(make([]string, 0, 5), "1234", "", "56789")
	was := slices.Clone(append(parts, "behind")[:cap(parts)])
	if got := dump.Sum(parts...); got != 0xCBF43926 {
		t.Errorf("Sum = %#x", got)
	}
	if !slices.Equal(parts[:cap(parts)], was) {
		t.Errorf("the parts are %q, were %q", parts[:cap(parts)], was)
	}
}

// inside tells whether a text has its bytes in the room of another.
func inside(text string, data string) bool {
	begin, at := uintptr(unsafe.Pointer(unsafe.StringData(data))), uintptr(unsafe.Pointer(unsafe.StringData(text)))
	return begin <= at && at < begin+uintptr(len(data))
}

// Whoever keeps an engine, or the texts of its bytes, does not keep the bytes.
func TestBytesAreNotKept(t *testing.T) {
	data := save(t, three(t))
	src, facts := open(t, data).Texts()
	headSrc, headFacts, _, _ := dump.Head(data)
	for _, text := range []string{src, facts, headSrc, headFacts} {
		if inside(text, data) {
			t.Errorf("%q is a piece of the bytes", text)
		}
	}
}

func TestSideBySide(t *testing.T) {
	e := load(t, ways, "")
	e.Run([]int{2, 5, -3}, 9, most)
	data, was := save(t, e), seen(e)
	var joined sync.WaitGroup
	for range 8 {
		joined.Go(func() {
			for range 15 {
				x, _ := dump.Open(data)
				if again, _ := dump.Save(x); again != data || seen(x) != was {
					t.Error("what is opened at the same time is another")
				}
				if text, _ := dump.Save(e); text != data {
					t.Error("what is saved at the same time is another")
				}
				x.Run(nil, most, most)
				if _, _, count, _ := dump.Head(data); count != 9 || dump.Sum(data) != 0x2144DF1C {
					t.Error("what is told at the same time is another")
				}
			}
		})
	}
	joined.Wait()
}
