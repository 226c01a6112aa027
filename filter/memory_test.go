package filter

import (
	"fmt"
	"reflect"
	"slices"
	"testing"

	"handshaker/api"
	"handshaker/sleep"
	"handshaker/term"
)

// text tells all that a value has; a list that is nil and one that is empty are told
// alike.
func text(v any) string { return fmt.Sprintf("%+v", v) }

// eachList goes through all lists that a value has, those in other ones too.
func eachList(v reflect.Value, do func(list reflect.Value)) {
	switch v.Kind() {
	case reflect.Struct:
		for i := range v.NumField() {
			eachList(v.Field(i), do)
		}
	case reflect.Slice:
		for i := range v.Len() {
			eachList(v.Index(i), do)
		}
		do(v)
	}
}

// roomy is a copy of a value, with more memory behind the end of each list.
func roomy[T any](v T) T {
	return roomyValue(reflect.ValueOf(&v).Elem()).Interface().(T)
}

func roomyValue(v reflect.Value) reflect.Value {
	c := reflect.New(v.Type()).Elem()
	switch v.Kind() {
	case reflect.Struct:
		for i := range v.NumField() {
			c.Field(i).Set(roomyValue(v.Field(i)))
		}
	case reflect.Slice:
		c.Set(reflect.MakeSlice(v.Type(), v.Len(), v.Len()+3))
		for i := range v.Len() {
			c.Index(i).Set(roomyValue(v.Index(i)))
		}
	default:
		c.Set(v)
	}
	return c
}

// wantRoom asks that nothing has been written behind the end of a list of what roomy
// answered.
func wantRoom(t *testing.T, v any) {
	t.Helper()
	eachList(reflect.ValueOf(v), func(list reflect.Value) {
		whole := list.Slice3(0, list.Cap(), list.Cap())
		for i := list.Len(); i < list.Cap(); i++ {
			if !whole.Index(i).IsZero() {
				t.Errorf("%v was written behind the end of %v", whole.Index(i), list)
			}
		}
	})
}

// wantOwn asks that no two lists of all these values have memory in common, behind
// their ends too.
func wantOwn(t *testing.T, values ...any) {
	t.Helper()
	type place struct{ from, to uintptr }
	var taken []place
	for _, v := range values {
		eachList(reflect.ValueOf(v), func(list reflect.Value) {
			if list.Cap() == 0 {
				return
			}
			p := place{from: list.Pointer()}
			p.to = p.from + uintptr(list.Cap())*list.Type().Elem().Size()
			for _, other := range taken {
				if p.from < other.to && other.from < p.to {
					t.Errorf("a list of %s shares its memory with another one: %v", list.Type(), list)
				}
			}
			taken = append(taken, p)
		})
	}
}

// spoil writes into each list that a value has, those in other ones first.
func spoil(v any) {
	eachList(reflect.ValueOf(v), func(list reflect.Value) {
		whole := list.Slice3(0, list.Cap(), list.Cap())
		for i := range whole.Len() {
			whole.Index(i).SetZero()
		}
	})
}

// given is all that a call of this layer may be handed.
type given struct {
	L []sleep.Sleeper
	S sleep.Sleeper
	H []api.Cell
	W []api.Write
}

// handed are lists, those who sleep and none, each with some who may lie down and may
// not, heaps and none, and writes.
func handed() []given {
	lists := [][]sleep.Sleeper{nil, {}, everybody(), some(0x55), some(0x6c), some(1), some(0x80), list(anyOf(2, put(3, 4)), anyOf(2, put(3, 4))), list(anyOf(2, put(4, 4), put(3, 4)), holds(1, cell(3)))}
	sleepers := list(everybody()[0], everybody()[1], everybody()[2], anyOf(4, put(3, 3)), otherOf(4, put(3, 4), put(9, 9)), holds(7, cell(3), num(9), op(term.Below)), sleep.Sleeper{}, watching(holds(2, make([]term.Op, 14)...), many(30)...))
	hs := [][]api.Cell{nil, {}, usual(), with(usual(), 3, live(10)), with(usual(), 63, live(70)), cells(live(4)), with(usual(), 63, api.Cell{Value: 1}), count(65)}
	behind := [][]api.Write{nil, {}, writes(put(3, 3)), writes(put(3, 10), put(63, 70), put(3, 10)), writes(put(-1, 0), put(9, 9), put(64, greatest+1)), many(64)}
	var all []given
	for _, l := range lists {
		for _, s := range sleepers {
			for place, h := range hs {
				all = append(all, given{l, s, h, behind[(len(all)+place)%len(behind)]})
			}
		}
	}
	return all
}

// answers are all that the calls answer of what they are handed.
func answers(g given) []any {
	lain, e := Lie(g.L, g.S, g.H)
	rest, whos := Wake(g.L, g.H, g.W...)
	return []any{lain, e, rest, whos, Woken(g.L, g.H, g.W...), May(g.S, g.H)}
}

// P1, R1: what is handed in stays as it was, behind the ends of its lists too; what is
// answered is memory of its own, beside an error as well; no two lists of it share any.
func TestAnswersAreOwn(t *testing.T) {
	for _, was := range handed() {
		g := roomy(was)
		all := answers(g)
		if text(g) != text(was) {
			t.Errorf("%s has become %s", text(was), text(g))
		}
		wantRoom(t, g)
		wantOwn(t, append(all, g)...)
		if e := all[1]; e != api.OK && text(all[0]) != text(was.L) {
			t.Errorf("Lie of %s: %s beside %d", text(was), text(all[0]), e)
		}
		if whos := all[3].([]int); len(whos) == 0 && text(all[2]) != text(was.L) {
			t.Errorf("Wake of nobody of %s: %s", text(was), text(all[2]))
		}
	}
}

// P1, R1: nor does what a next call answers share any with what an earlier one did.
func TestNextAnswersAreOwn(t *testing.T) {
	for _, g := range handed() {
		lain, _ := Lie(g.L, g.S, g.H)
		again, _ := Lie(lain, g.S, g.H)
		rest, whos := Wake(again, g.H, g.W...)
		next, others := Wake(rest, g.H, g.W...)
		last, _ := Lie(next, anyOf(4, put(3, 1)), g.H)
		wantOwn(t, g, lain, again, rest, whos, next, others, last)
	}
}

// P1, R1: one and the same lists may be handed in more than once.
func TestSharedListsAreOwn(t *testing.T) {
	w, o := roomy(writes(put(3, 4), put(9, 9))), roomy(ops(cell(3), cell(9), op(term.Both)))
	s := withTerm(watching(holds(5), w...), o...)
	l := list(anyOf(1, w...), otherOf(3, w...), as(4, s), as(6, s))
	was := text(l)
	for _, h := range [][]api.Cell{usual(), with(usual(), 3, live(0)), with(usual(), 3, live(4)), nil} {
		lain, _ := Lie(l, s, h)
		rest, whos := Wake(l, h, w...)
		same, _ := Wake(l, h, w[:0]...)
		wantOwn(t, w, o, lain, rest, whos, same)
	}
	wantRoom(t, w)
	wantRoom(t, o)
	if text(l) != was {
		t.Errorf("%s has become %s", was, text(l))
	}
}

// R1, R4: what is answered hangs on what was given alone, whatever was asked for
// meanwhile, and whatever somebody wrote into the answers.
func TestTheSameAgain(t *testing.T) {
	all := handed()
	for place, g := range all {
		want := text(answers(g))
		for _, v := range answers(all[(place*7+3)%len(all)]) {
			spoil(v)
		}
		for _, v := range answers(g) {
			spoil(v)
		}
		if got := text(answers(roomy(g))); got != want {
			t.Errorf("%s: %s and not %s", text(g), got, want)
		}
	}
}

// R5: a list that is nil and one that is empty are the same.
func TestNilAndEmpty(t *testing.T) {
	for _, mode := range numbers(sleep.Any, sleep.Other, sleep.Holds) {
		for _, o := range [][]term.Op{nil, {}} {
			for _, w := range [][]api.Write{nil, {}} {
				s := sleep.Sleeper{Who: 2, Mode: mode, Watch: w, Term: o}
				wantMay(t, s, usual(), mode == sleep.Any)
				s.Term = append(slices.Clone(o), num(1))
				wantMay(t, s, usual(), mode == sleep.Holds)
			}
		}
	}
	for _, l := range [][]sleep.Sleeper{nil, {}} {
		for _, w := range [][]api.Write{nil, {}} {
			wantWoken(t, l, usual(), w)
			wantWoken(t, everybody(), usual(), w)
		}
		for _, h := range [][]api.Cell{nil, {}} {
			wantLie(t, l, anyOf(3), h, api.ErrArg)
			wantMay(t, anyOf(3), h, false)
		}
		wantLie(t, l, otherOf(3), usual(), api.OK)
	}
}
