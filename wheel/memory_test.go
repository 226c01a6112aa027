package wheel

import (
	"fmt"
	"reflect"
	"testing"

	"handshaker/api"
)

// text tells all that a value has; a list that is nil and one that is empty are told
// alike.
func text(v any) string { return fmt.Sprintf("%+v", v) }

// eachList goes through all lists that a value has, those in other ones too.
func eachList(v reflect.Value, do func(list reflect.Value)) {
	switch v.Kind() {
	case reflect.Struct:
		for i := range v.NumField() {
			eachList(v.Field(i), do)
		}
	case reflect.Array:
		for i := range v.Len() {
			eachList(v.Index(i), do)
		}
	case reflect.Slice:
		for i := range v.Len() {
			eachList(v.Index(i), do)
		}
		do(v)
	}
}

// roomy is a copy of a wheel, with more memory behind the end of each slot.
func roomy(w Wheel) Wheel {
	for place, slot := range w.Slots {
		w.Slots[place] = append(make([]Item, 0, len(slot)+3), slot...)
	}
	return w
}

// wantRoom asks that nothing has been written behind the end of a slot of what roomy
// answered.
func wantRoom(t *testing.T, w Wheel) {
	t.Helper()
	for _, slot := range w.Slots {
		for _, i := range slot[len(slot):cap(slot)] {
			if i != (Item{}) {
				t.Errorf("%v was written behind the end of %v", i, slot)
			}
		}
	}
}

// wantOwn asks that no two lists of all these values have memory in common, behind
// their ends too.
func wantOwn(t *testing.T, values ...any) {
	t.Helper()
	type place struct{ from, to uintptr }
	var taken []place
	for _, v := range values {
		eachList(reflect.ValueOf(v), func(list reflect.Value) {
			if list.Cap() == 0 {
				return
			}
			p := place{from: list.Pointer()}
			p.to = p.from + uintptr(list.Cap())*list.Type().Elem().Size()
			for _, other := range taken {
				if p.from < other.to && other.from < p.to {
					t.Errorf("a list of %s shares its memory with another one: %v", list.Type(), list)
				}
			}
			taken = append(taken, p)
		})
	}
}

// given is all that a call of this layer may be handed.
type given struct {
	w          Wheel
	who, ticks int
}

// handed are wheels, and none, each with some who may be set and may not, and ticks
// that may be and may not.
func handed() []given {
	wheels := []Wheel{{}, {Now: 100}, few(), oneEach(), inOne(), atOnce(), late(), {Now: end}, {Now: -1}, of(100, item(2, 112), item(1, 104)), of(100, item(3, 104), item(3, 107), item(4, 109)), with(few(), 6, item(2, 104)), with(oneEach(), 3, make([]Item, 9)...)}
	var all []given
	for _, w := range wheels {
		for _, who := range []int{0, 1, 2, 5, 6, 8, 9} {
			for _, ticks := range []int{-1, 0, 1, 4, 9, 12, 20, 300, end - 100, end, end + 1} {
				all = append(all, given{w, who, ticks})
			}
		}
	}
	return all
}

// answers are all that the calls answer of what they are handed.
func answers(g given) []any {
	w, newE := New(g.w.Now)
	set, setE := Set(g.w, g.who, g.ticks)
	left, leftE := Clear(g.w, g.who)
	turned, woken, turnE := Turn(g.w, g.ticks)
	return []any{w, newE, set, setE, left, leftE, turned, woken, turnE, Right(g.w), Items(g.w)}
}

// P1, R1: what is handed in stays as it was, behind the ends of its lists too; what is
// answered is memory of its own, beside an error as well; no two lists of it share any.
func TestAnswersAreOwn(t *testing.T) {
	for _, was := range handed() {
		g := was
		g.w = roomy(was.w)
		all := answers(g)
		if text(g) != text(was) {
			t.Errorf("%s has become %s", text(was), text(g))
		}
		wantRoom(t, g.w)
		wantOwn(t, append(all, g.w)...)
		if e := all[3]; e != api.OK && text(all[2]) != text(Wheel{}) {
			t.Errorf("Set of %s: %s beside %d", text(was), text(all[2]), e)
		}
		if e := all[5]; e != api.OK && text(all[4]) != text(Wheel{}) {
			t.Errorf("Clear of %s: %s beside %d", text(was), text(all[4]), e)
		}
		if e := all[8]; e != api.OK && (text(all[6]) != text(was.w) || text(all[7]) != "[]") {
			t.Errorf("Turn of %s: %s and %s beside %d", text(was), text(all[6]), text(all[7]), e)
		}
	}
}

// P1, R1: nor does what a next call answers share any with what an earlier one did.
func TestNextAnswersAreOwn(t *testing.T) {
	for _, g := range handed() {
		set, e := Set(g.w, g.who, 4)
		if e != api.OK {
			set = g.w
		}
		more, _ := Set(set, 2, 20)
		again, _ := Set(more, 6, 12)
		left, _ := Clear(again, 2)
		turned, woken, _ := Turn(left, 4)
		next, rest, _ := Turn(turned, g.ticks)
		last, none, _ := Turn(next, 0)
		if e != api.OK {
			set = Wheel{}
		}
		wantOwn(t, g.w, set, more, again, left, turned, woken, next, rest, last, none, Items(next), Items(next))
	}
}

// P1, R1: one and the same list may stand in more than one slot; each that is answered
// is one of its own.
func TestSharedSlotsAreOwn(t *testing.T) {
	list := append(make([]Item, 0, 4), item(1, 104), item(2, 112))
	var w Wheel
	for place := range w.Slots {
		w.Slots[place] = list
	}
	v, woken, e := Turn(w, 4)
	if e != api.ErrArg || !sameWheel(v, w) || len(woken) != 0 {
		t.Errorf("Turn of %v: %v, %v, %d", w, v, woken, e)
	}
	wantOwn(t, list, v, woken)
	none := Wheel{Now: 100}
	for place := range none.Slots {
		none.Slots[place] = list[place%3 : place%3]
	}
	v, e = Set(none, 3, 4)
	wantWheel(t, v, of(100, item(3, 104)), e, api.OK, "Set of shared slots")
	next, e := Clear(v, 3)
	wantWheel(t, next, Wheel{Now: 100}, e, api.OK, "Clear of shared slots")
	if text(list) != text(items(item(1, 104), item(2, 112))) || list[:4][2] != (Item{}) {
		t.Errorf("the list has become %v", list[:4])
	}
	wantOwn(t, list, v, next)
}

// spoil writes into each list that a value has.
func spoil(v any) {
	eachList(reflect.ValueOf(v), func(list reflect.Value) {
		whole := list.Slice3(0, list.Cap(), list.Cap())
		for i := range whole.Len() {
			whole.Index(i).SetZero()
		}
	})
}

// R1, R4: what is answered hangs on what was given alone, whatever was asked for
// meanwhile, and whatever somebody wrote into the answers.
func TestTheSameAgain(t *testing.T) {
	all := handed()
	for place, g := range all {
		want := text(answers(g))
		for _, v := range answers(all[(place*7+3)%len(all)]) {
			spoil(v)
		}
		for _, v := range answers(g) {
			spoil(v)
		}
		again := g
		again.w = roomy(g.w)
		if got := text(answers(again)); got != want {
			t.Errorf("%s: %s and not %s", text(g), got, want)
		}
	}
}

// R5: a slot that is nil and one that is empty are the same.
func TestNilAndEmpty(t *testing.T) {
	for _, empty := range [][]Item{nil, {}, make([]Item, 0, 5)} {
		w := Wheel{Now: 100}
		for place := range w.Slots {
			w.Slots[place] = empty
		}
		if !Right(w) || len(Items(w)) != 0 {
			t.Errorf("Right of %v: %v", w, Right(w))
		}
		v, e := Set(w, 3, 4)
		wantWheel(t, v, of(100, item(3, 104)), e, api.OK, "Set", w)
		v, e = Clear(v, 3)
		wantWheel(t, v, w, e, api.OK, "Clear", w)
		v, l, e := Turn(v, 9)
		wantWheel(t, v, Wheel{Now: 109}, e, api.OK, "Turn", w)
		if len(l) != 0 {
			t.Errorf("Turn of %v: %v", w, l)
		}
		v, e = Clear(w, 3)
		wantWheel(t, v, Wheel{}, e, api.ErrNone, "Clear", w)
	}
}
