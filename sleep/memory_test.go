package sleep

import (
	"fmt"
	"reflect"
	"slices"
	"testing"

	"handshaker/api"
	"handshaker/term"
)

// text tells all that a value has; a list that is nil and one that is empty are told
// alike.
func text(v any) string { return fmt.Sprintf("%+v", v) }

// eachList goes through all lists that a value has, those in other ones too.
func eachList(v reflect.Value, do func(list reflect.Value)) {
	switch v.Kind() {
	case reflect.Struct:
		for i := range v.NumField() {
			eachList(v.Field(i), do)
		}
	case reflect.Slice:
		for i := range v.Len() {
			eachList(v.Index(i), do)
		}
		do(v)
	}
}

// roomy is a copy of a value, with more memory behind the end of each list.
func roomy[T any](v T) T {
	return roomyValue(reflect.ValueOf(&v).Elem()).Interface().(T)
}

func roomyValue(v reflect.Value) reflect.Value {
	c := reflect.New(v.Type()).Elem()
	switch v.Kind() {
	case reflect.Struct:
		for i := range v.NumField() {
			c.Field(i).Set(roomyValue(v.Field(i)))
		}
	case reflect.Slice:
		c.Set(reflect.MakeSlice(v.Type(), v.Len(), v.Len()+3))
		for i := range v.Len() {
			c.Index(i).Set(roomyValue(v.Index(i)))
		}
	default:
		c.Set(v)
	}
	return c
}

// wantRoom asks that nothing has been written behind the end of a list of what roomy
// answered.
func wantRoom(t *testing.T, v any) {
	t.Helper()
	eachList(reflect.ValueOf(v), func(list reflect.Value) {
		whole := list.Slice3(0, list.Cap(), list.Cap())
		for i := list.Len(); i < list.Cap(); i++ {
			if !whole.Index(i).IsZero() {
				t.Errorf("%v was written behind the end of %v", whole.Index(i), list)
			}
		}
	})
}

// wantOwn asks that no two lists of all these values have memory in common, behind
// their ends too.
func wantOwn(t *testing.T, values ...any) {
	t.Helper()
	type place struct{ from, to uintptr }
	var taken []place
	for _, v := range values {
		eachList(reflect.ValueOf(v), func(list reflect.Value) {
			if list.Cap() == 0 {
				return
			}
			p := place{from: list.Pointer()}
			p.to = p.from + uintptr(list.Cap())*list.Type().Elem().Size()
			for _, other := range taken {
				if p.from < other.to && other.from < p.to {
					t.Errorf("a list of %s shares its memory with another one: %v", list.Type(), list)
				}
			}
			taken = append(taken, p)
		})
	}
}

// given is all that a call of this layer may be handed.
type given struct {
	L     []Sleeper
	S     Sleeper
	Who   []int
	Reads []api.Read
}

// handed are lists, those who sleep and none, each with some who may be added and may
// not, Whos that may be dropped and may not, and reads.
func handed() []given {
	lists := [][]Sleeper{nil, {}, everybody(), some(0x55), some(0x6c), some(1), some(0x80), list(holds(4, sum(3, 9, 1, 0, 63, 20)...))}
	lists = append(lists, list(anyOf(2, put(3, 4)), anyOf(2, put(3, 4))), list(anyOf(2, put(4, 4), put(3, 4)), holds(1, cell(3))), list(Sleeper{Who: 9, Mode: Holds, Watch: many(30), Term: make([]term.Op, 14)}))
	sleepers := list(everybody()[0], everybody()[2], everybody()[4], anyOf(4), Sleeper{}, Sleeper{Who: 2, Mode: Holds, Watch: many(30), Term: make([]term.Op, 14)})
	whos := [][]int{nil, {}, {1}, {3, 1}, {5, 7, 3}, {4}, {2, 2}, {9}, {8, 7, 6, 5, 4, 3, 2, 1}}
	reads := [][]api.Read{nil, readsOf(read(7, 0, 1), read(3, 5, 2)), readsOf(read(7, 0, 1), read(7, 0, 1)), readsOf(read(3, 0, 1), read(7, 0, 1), read(0, 0, 1), read(70, 0, 1))}
	var all []given
	for _, l := range lists {
		for place, s := range sleepers {
			for _, who := range whos {
				all = append(all, given{l, s, who, reads[place%len(reads)]})
			}
		}
	}
	return all
}

// answers are all that the calls answer of what they are handed.
func answers(g given) []any {
	added, addE := Add(g.L, g.S)
	dropped, dropE := Drop(g.L, g.Who...)
	all := []any{Right(g.L), added, addE, dropped, dropE, Of(g.L, g.Who...), Watched(g.Reads)}
	for who := range 10 {
		s, e := Find(g.L, who)
		all = append(all, s, e)
	}
	return all
}

// P1, R1: what is handed in stays as it was, behind the ends of its lists too; what is
// answered is memory of its own, beside an error as well; no two lists of it share any.
func TestAnswersAreOwn(t *testing.T) {
	for _, was := range handed() {
		g := roomy(was)
		all := answers(g)
		if text(g) != text(was) {
			t.Errorf("%s has become %s", text(was), text(g))
		}
		wantRoom(t, g)
		wantOwn(t, append(all, g)...)
		if e := all[2]; e != api.OK && text(all[1]) != text(was.L) {
			t.Errorf("Add of %s: %s beside %d", text(was), text(all[1]), e)
		}
		if e := all[4]; e != api.OK && text(all[3]) != text(was.L) {
			t.Errorf("Drop of %s: %s beside %d", text(was), text(all[3]), e)
		}
	}
}

// P1, R1: nor does what a next call answers share any with what an earlier one did.
func TestNextAnswersAreOwn(t *testing.T) {
	for _, g := range handed() {
		added, _ := Add(g.L, g.S)
		dropped, _ := Drop(added, g.Who...)
		rest, _ := Drop(dropped)
		s, _ := Find(rest, 3)
		without, _ := Drop(rest, 3)
		again, _ := Add(without, s)
		more, _ := Add(again, anyOf(4, put(1, 1)))
		wantOwn(t, g, added, dropped, rest, s, without, again, more)
	}
}

// P1, R1: one and the same lists may be handed in more than once.
func TestSharedListsAreOwn(t *testing.T) {
	w, o := roomy(watch(put(3, 4), put(9, 1))), roomy(ops(cell(3), cell(9), op(term.Plus)))
	l := list(anyOf(1, w...), otherOf(3, w...), Sleeper{Who: 4, Mode: Holds, Watch: w, Term: o}, Sleeper{Who: 6, Mode: Holds, Watch: w, Term: o})
	was := text(l)
	for _, who := range [][]int{nil, {1}, {3, 4}, {1, 6}, {2}, {1, 1}} {
		added, _ := Add(l, Sleeper{Who: 5, Mode: Holds, Watch: w, Term: o})
		dropped, _ := Drop(l, who...)
		found, _ := Find(l, 4)
		wantOwn(t, w, o, added, dropped, found)
	}
	wantRoom(t, w)
	wantRoom(t, o)
	if text(l) != was {
		t.Errorf("%s has become %s", was, text(l))
	}
}

// spoil writes into each list that a value has, those in other ones first.
func spoil(v any) {
	eachList(reflect.ValueOf(v), func(list reflect.Value) {
		whole := list.Slice3(0, list.Cap(), list.Cap())
		for i := range whole.Len() {
			whole.Index(i).SetZero()
		}
	})
}

// R1, R4: what is answered hangs on what was given alone, whatever was asked for
// meanwhile, and whatever somebody wrote into the answers.
func TestTheSameAgain(t *testing.T) {
	all := handed()
	for place, g := range all {
		want := text(answers(g))
		for _, v := range answers(all[(place*7+3)%len(all)]) {
			spoil(v)
		}
		for _, v := range answers(g) {
			spoil(v)
		}
		if got := text(answers(roomy(g))); got != want {
			t.Errorf("%s: %s and not %s", text(g), got, want)
		}
	}
}

// R5: a list that is nil and one that is empty are the same.
func TestNilAndEmpty(t *testing.T) {
	for _, mode := range []int{Any, Other, Holds} {
		for _, o := range [][]term.Op{nil, {}} {
			for _, w := range [][]api.Write{nil, {}} {
				s := Sleeper{Who: 2, Mode: mode, Watch: w, Term: o}
				if got := Right(list(s)); got != (mode != Holds) {
					t.Errorf("Right of %v: %v", s, got)
				}
				s.Term = append(slices.Clone(o), num(1))
				if got := Right(list(s)); got != (mode == Holds) {
					t.Errorf("Right of %v: %v", s, got)
				}
			}
		}
	}
	for _, l := range [][]Sleeper{nil, {}} {
		added, e := Add(l, anyOf(3))
		wantList(t, added, list(anyOf(3)), e, api.OK, "Add")
		left, e := Drop(added, 3)
		wantList(t, left, l, e, api.OK, "Drop")
		wantFound(t, l, 3, Sleeper{}, api.ErrNone)
	}
}
