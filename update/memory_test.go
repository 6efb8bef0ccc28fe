package update_test

import (
	"cmp"
	"fmt"
	"reflect"
	"runtime"
	"slices"
	"strings"
	"sync"
	"testing"

	"edict/api"
	"edict/update"
)

// DOC.md's P2 and P5: what is handed in, and what is handed out.

// listsIn is all lists in a value, and in what they hold.
func listsIn(value any) []reflect.Value {
	var lists []reflect.Value
	var walk func(v reflect.Value)
	walk = func(v reflect.Value) {
		switch v.Kind() {
		case reflect.Slice:
			lists = append(lists, v)
			for num := range v.Len() {
				walk(v.Index(num))
			}
		case reflect.Struct:
			for num := range v.NumField() {
				walk(v.Field(num))
			}
		}
	}
	walk(reflect.ValueOf(value))
	return lists
}

// told is all lists that calls answer, and what a watcher is handed, over some changes.
func told(k *update.Keeper) (all [][]api.Fact) {
	all = append(all, k.Given(), k.Facts())
	var heard []api.Fact
	for _, pred := range []string{"path", "apart", "edge", "path"} {
		k.Watch(pred, func(came bool, f api.Fact) { heard = append(heard, f) })
	}
	for _, c := range [][2]string{{"", "edge(c, a)."}, {"edge(c, a).", ""}, {"edge(a, b).", "edge(c, d). path(a, b)."}, {"edge(c, d). path(a, b).", "edge(a, b)."}} {
		came, went, _ := k.Change(facts(c[0]), facts(c[1]))
		all = append(all, came, went, k.Given(), k.Facts(), k.Copy().Given(), k.Copy().Facts())
	}
	return append(all, heard)
}

type span struct{ from, to uintptr }

func TestListsLieApart(t *testing.T) {
	k := open(t, ways, "edge(c, c). p. p2(1, 2).")
	kept := [][][]api.Fact{told(k), told(k), told(k.Copy())}
	var spans []span
	for _, list := range listsIn(kept) {
		if list.Cap() > 0 {
			from := list.Pointer()
			spans = append(spans, span{from, from + uintptr(list.Cap())*list.Type().Elem().Size()})
		}
	}
	if len(spans) < 900 {
		t.Fatalf("only %d lists", len(spans))
	}
	slices.SortFunc(spans, func(a, b span) int { return cmp.Compare(a.from, b.from) })
	for num := range spans[1:] {
		if spans[num].to > spans[num+1].from {
			t.Fatal("two lists share memory")
		}
	}
	runtime.KeepAlive(kept) // else the room of one answer might be given to the next
}

// spoilAll writes zeros over all lists of an answer, their spare room too.
func spoilAll(answer any) {
	lists := listsIn(answer)
	for last := len(lists) - 1; last >= 0; last-- { // the inner ones first: the outer ones hold them
		whole := lists[last].Slice(0, lists[last].Cap())
		for num := range whole.Len() {
			whole.Index(num).SetZero()
		}
	}
}

// What is written into an answer is seen by nobody, a copy neither.
func TestAnswersAreNewMemory(t *testing.T) {
	k := open(t, ways, "")
	c := k.Copy()
	was, want := seen(k), fmt.Sprint(told(k.Copy()))
	for range 3 {
		spoilAll(told(k))
		spoilAll(told(c))
		if seen(k) != was || seen(c) != was || seen(k.Copy()) != was {
			t.Fatalf("the keeper is another: %s", seen(k))
		}
		if got := fmt.Sprint(told(k.Copy())); got != want {
			t.Fatalf("the calls answer %s, want %s", got, want)
		}
	}
}

// What was answered stays as it is, whatever happens to the keeper.
func TestAnswersStay(t *testing.T) {
	k := open(t, ways, "")
	kept := told(k)
	was := fmt.Sprint(kept)
	told(k)
	mustChange(t, k, "edge(a, b). edge(b, c).", "p(9).")
	if got := fmt.Sprint(kept); got != was {
		t.Errorf("answers from earlier are %s, were %s", got, was)
	}
}

// roomy is facts whose lists have spare room, filled with marks.
func roomy(text string) []api.Fact {
	list := facts(text)
	for num, f := range list {
		args := append(make([]api.Const, 0, len(f.Args)+3), f.Args...)
		for place := range args[len(args):cap(args)] {
			args[:cap(args)][len(args)+place] = number(int64(77 + place))
		}
		list[num].Args = args
	}
	whole := append(make([]api.Fact, 0, len(list)+2), list...)
	for num := range whole[len(list):cap(whole)] {
		whole[:cap(whole)][len(list)+num] = api.Fact{Pred: "mark", Args: []api.Const{number(88)}}
	}
	return whole
}

// all is what stands in facts and in their spare room.
func all(list []api.Fact) string {
	var words []string
	for _, f := range list[:cap(list)] {
		words = append(words, fmt.Sprint(f.Pred, f.Args[:cap(f.Args)]))
	}
	return strings.Join(words, " ")
}

// What is handed in is not changed, and not kept: what is written there later is seen by nobody.
func TestHandedIn(t *testing.T) {
	k := open(t, ways, "")
	other := k.Copy()
	for _, c := range []struct{ drop, add string }{
		{"edge(b, c). edge(a, b).", "path(b, d). edge(a, b). edge(c, b). p(3, 2, 1)."}, {"", "edge(z, a). edge(y, z)."}, {"p(3, 2, 1).", "p(1)."},
		{"p(2).", "edge(1, 2)."}, {"", "edge(a, b)."}, {"", "edge(1)."},
	} {
		drop, add := roomy(c.drop), roomy(c.add)
		wasDrop, wasAdd := all(drop), all(add)
		came, went, e := k.Change(drop, add)
		wantCame, wantWent, want := other.Change(facts(c.drop), facts(c.add))
		if all(drop) != wasDrop || all(add) != wasAdd {
			t.Errorf("Change(%s / %s) has written into %s / %s", c.drop, c.add, all(drop), all(add))
		}
		told := textOf(came) + " / " + textOf(went)
		was := seen(k)
		spoilAll(drop)
		spoilAll(add)
		if seen(k) != was || was != seen(other) || told != textOf(wantCame)+" / "+textOf(wantWent) || e != want || textOf(came)+" / "+textOf(went) != told {
			t.Errorf("Change(%s / %s) keeps what it is handed: %s, want %s", c.drop, c.add, seen(k), was)
		}
	}
	f := roomy("path(y, b).")[0]
	was := fmt.Sprint(f.Args[:cap(f.Args)])
	if !k.Has(f) || fmt.Sprint(f.Args[:cap(f.Args)]) != was {
		t.Errorf("Has has written into %v", f.Args[:cap(f.Args)])
	}
}

// What is asked of one keeper at the same time, and what happens to copies at the same time.
func TestSideBySide(t *testing.T) {
	k := open(t, ways, "")
	change(t, k, "", "p(1).", "p(1).", "")
	was, want := seen(k), fmt.Sprint(told(k.Copy()))
	var joined sync.WaitGroup
	for range 8 {
		joined.Go(func() {
			for range 20 {
				if seen(k) != was || !k.Has(fact("path(a, c)")) {
					t.Error("the keeper tells something else")
				}
				if got := fmt.Sprint(told(k.Copy())); got != want {
					t.Errorf("a copy tells %s, want %s", got, want)
				}
			}
		})
	}
	joined.Wait()
}
