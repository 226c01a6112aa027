package wheel

import (
	"math"
	"slices"
	"testing"

	"handshaker/api"
)

const (
	end  = api.MaxClock
	turn = 1 << 32
)

func item(who, until int) Item { return Item{Who: who, Until: until} }
func items(l ...Item) []Item   { return l }

// of lays each item into the slot that its Until leaves over, behind those that are
// named ahead of it.
func of(now int, l ...Item) Wheel {
	w := Wheel{Now: now}
	for _, i := range l {
		place := i.Until & 7
		w.Slots[place] = append(w.Slots[place], i)
	}
	return w
}

// with lays some items into one slot, whatever their Untils leave over.
func with(w Wheel, place int, l ...Item) Wheel {
	w.Slots[place] = slices.Concat(w.Slots[place], l)
	return w
}

func sameWheel(w, other Wheel) bool {
	same := w.Now == other.Now
	for place, slot := range w.Slots {
		same = same && slices.Equal(slot, other.Slots[place])
	}
	return same
}

func wantWheel(t *testing.T, got, want Wheel, e, wantE api.Errno, told ...any) {
	t.Helper()
	if !sameWheel(got, want) || e != wantE {
		t.Errorf("%v: %v, %d and not %v, %d", told, got, e, want, wantE)
	}
}

func rightNows() []int { return []int{0, 1, 2, 6, 7, 8, 9, 100, 255, 1 << 16, end - 1, end} }

// wrongTimes are none; some of them come back to one if they are cut to fewer bits.
func wrongTimes() []int {
	return []int{-1, -2, -7, -8, -9, -end, -end - 1, -end - 2, end + 1, end + 2, end + 8, turn - 1, turn, turn + 7, turn + 104, -turn, -turn + 104, math.MinInt, math.MinInt + 104, math.MaxInt}
}

func wrongWhos() []int {
	return []int{0, -1, -2, -8, 9, 10, 16, 64, 257, turn, turn + 1, -turn + 8, math.MinInt, math.MinInt + 1, math.MaxInt}
}

// oneEach has one in each slot: 107 is ahead of 108, that is in another slot.
func oneEach() Wheel {
	return of(100, item(3, 104), item(8, 113), item(1, 138), item(5, 107), item(2, 108+1000), item(7, 101), item(4, 110), item(6, 111+80))
}

// inOne has all eight in the slot 0.
func inOne() Wheel {
	return of(100, item(5, 104), item(2, 112), item(6, 112), item(7, 112), item(1, 120), item(8, 128), item(3, 136), item(4, 136))
}

// atOnce has all eight at one time.
func atOnce() Wheel {
	w := Wheel{Now: 100}
	for who := 1; who <= 8; who++ {
		w = with(w, 7, item(who, 103))
	}
	return w
}

// few has some in four slots, but not 2 and 6.
func few() Wheel {
	return of(100, item(5, 104), item(1, 112), item(7, 112), item(3, 101), item(8, 107), item(4, 103+8*50))
}

// late has some who are woken by the last times.
func late() Wheel {
	return of(end-9, item(2, end-8), item(8, end-8), item(4, end-7), item(1, end-1), item(6, end), item(7, end))
}

func rightWheels() []Wheel {
	var all []Wheel
	for _, now := range rightNows() {
		all = append(all, Wheel{Now: now})
		for ticks := 1; ticks <= 18 && now+ticks <= end; ticks++ {
			for who := 1; who <= 8; who++ {
				all = append(all, of(now, item(who, now+ticks)))
			}
			all = append(all, of(now, item(1, now+ticks), item(8, end)))
		}
	}
	empty := Wheel{Now: 7}
	for place := range empty.Slots {
		empty.Slots[place] = items()
	}
	all = append(all, empty, Wheel{}, of(0, item(1, end)), of(0, item(1, end-8), item(2, end-8), item(3, end)), of(end-1, item(2, end), item(3, end)))
	return append(all, oneEach(), inOne(), atOnce(), few(), late())
}

// wrongWheels are none, each for one thing.
func wrongWheels() []Wheel {
	var all []Wheel
	for _, now := range wrongTimes() {
		all = append(all, Wheel{Now: now})
		if now < 0 {
			all = append(all, of(now, item(1, 0)), of(now, item(1, 104)))
		}
		for _, w := range []Wheel{oneEach(), inOne(), late()} {
			w.Now = now
			all = append(all, w)
		}
	}
	all = append(all, wrongInSlots()...)
	all = append(all, wrongInOrder()...)
	return append(all, wrongTwice()...)
}

// wrongInSlots have a Who that is none, an Until that is none or not above Now, or an
// item in a slot that is another one's.
func wrongInSlots() []Wheel {
	var all []Wheel
	for _, who := range wrongWhos() {
		all = append(all, of(100, item(who, 104)), of(0, item(who, 1)), of(100, item(1, 104), item(who, 112)), of(100, item(who, 104), item(8, 112)), of(100, item(who, 101), item(2, 107)))
	}
	for _, until := range wrongTimes() {
		all = append(all, of(100, item(1, until)), of(0, item(8, until)), with(few(), until&7, item(2, until)))
		w := few()
		w.Slots[until&7] = slices.Insert(slices.Clone(w.Slots[until&7]), 0, item(2, until))
		all = append(all, w)
	}
	for _, now := range rightNows() {
		for until := max(0, now-17); until <= now; until++ {
			all = append(all, of(now, item(3, until)), of(now, item(3, until), item(4, end)))
		}
	}
	for who := 1; who <= 8; who++ {
		for _, until := range []int{101, 102, 103, 104, 105, 106, 107, 108, 116, end} {
			for place := range 8 {
				if place != until&7 {
					all = append(all, with(Wheel{Now: 100}, place, item(who, until)))
				}
			}
		}
	}
	return append(all, with(few(), 6, item(2, 103)), with(few(), 7, item(2, 504)), with(few(), 0, item(2, 501)))
}

// wrongInOrder have Untils that fall in a slot, or Whos that fall in an Until.
func wrongInOrder() []Wheel {
	var all []Wheel
	all = append(all, of(100, item(1, 112), item(2, 104)), of(100, item(2, 112), item(1, 104)), of(100, item(2, 104), item(1, 104)), of(100, item(8, 103), item(7, 103)), of(0, item(1, end), item(2, end-8)))
	all = append(all, of(100, item(1, 104), item(2, 120), item(3, 112)), of(100, item(1, 112), item(2, 104), item(3, 120)), of(100, item(1, 104), item(3, 104), item(2, 104)), of(100, item(2, 104), item(1, 104), item(3, 104)), of(100, item(1, 104), item(3, 112), item(2, 104)))
	for _, w := range []Wheel{inOne(), atOnce(), few(), late()} {
		for place, slot := range w.Slots {
			for at := 1; at < len(slot); at++ {
				turned := slices.Clone(slot)
				turned[at-1], turned[at] = turned[at], turned[at-1]
				other := w
				other.Slots[place] = turned
				all = append(all, other)
			}
		}
	}
	return all
}

// wrongTwice have somebody twice, in one slot or in two.
func wrongTwice() []Wheel {
	all := []Wheel{
		of(100, item(1, 104), item(1, 104)), of(100, item(1, 104), item(1, 112)), of(100, item(8, 104), item(8, 105)), of(0, item(8, 1), item(8, 8)), of(100, item(1, 103), item(1, 104)),
		of(100, item(1, 104), item(2, 104), item(1, 112)), of(100, item(3, 104), item(3, 104), item(4, 104)), of(100, item(2, 104), item(3, 104), item(3, 104)), of(100, item(3, 104), item(2, 107), item(3, 112)),
	}
	var long []Item
	for n := range 1 << 16 {
		long = append(long, item(1+n%8, 104+8*n))
	}
	all = append(all, with(Wheel{Now: 100}, 0, long[:9]...), with(Wheel{Now: 100}, 0, long...), with(Wheel{Now: 100}, 0, make([]Item, 1<<16+1)...))
	for _, w := range []Wheel{oneEach(), inOne(), atOnce()} {
		for who := 1; who <= 8; who++ {
			for until := 1000; until < 1008; until++ {
				all = append(all, with(w, until&7, item(who, until+1000)))
			}
		}
	}
	return all
}

// P17.1
func TestNew(t *testing.T) {
	for _, now := range rightNows() {
		w, e := New(now)
		wantWheel(t, w, Wheel{Now: now}, e, api.OK, "New", now)
		if !Right(w) || len(Items(w)) != 0 {
			t.Errorf("New(%d): %v", now, w)
		}
	}
	for _, now := range wrongTimes() {
		w, e := New(now)
		wantWheel(t, w, Wheel{}, e, api.ErrArg, "New", now)
	}
}

// P17.1
func TestRight(t *testing.T) {
	for _, w := range rightWheels() {
		if !Right(w) {
			t.Errorf("Right of %v: false", w)
		}
	}
	for _, w := range wrongWheels() {
		if Right(w) {
			t.Errorf("Right of %v: true", w)
		}
	}
}

// P17.1: one item, of each few Whos, Untils and Slots.
func TestRightOfEachItem(t *testing.T) {
	count := 0
	for _, now := range []int{-1, 0, 1, 7, 8, end - 9, end - 1, end, end + 1} {
		for who := -1; who <= 10; who++ {
			for until := now - 9; until <= now+18; until++ {
				for place := range 8 {
					want := now >= 0 && now <= end && who >= 1 && who <= 8 && until > now && until <= end && until&7 == place
					if want {
						count++
					}
					if got := Right(with(Wheel{Now: now}, place, item(who, until))); got != want {
						t.Errorf("Right of %d until %d as of %d, in the slot %d: %v", who, until, now, place, got)
					}
				}
			}
		}
	}
	if count != 8*(18*4+9+1) {
		t.Errorf("%d are right", count)
	}
}

// P17.1: of what is no wheel the others tell ErrArg, or nothing; Turn tells it as it was.
func TestOfWhatIsNoWheel(t *testing.T) {
	for _, w := range wrongWheels() {
		for _, who := range []int{1, 2, 5, 8, 0, 9, -1, math.MaxInt} {
			v, e := Clear(w, who)
			wantWheel(t, v, Wheel{}, e, api.ErrArg, "Clear", w, who)
			for _, ticks := range []int{1, 0, math.MaxInt} {
				v, e := Set(w, who, ticks)
				wantWheel(t, v, Wheel{}, e, api.ErrArg, "Set", w, who, ticks)
			}
		}
		for _, ticks := range []int{1, 8, 100, end, end + 1, 0, -1, math.MaxInt, math.MinInt} {
			v, l, e := Turn(w, ticks)
			wantWheel(t, v, w, e, api.ErrArg, "Turn", w, ticks)
			if len(l) != 0 {
				t.Errorf("Turn of %v: %v", w, l)
			}
		}
		if l := Items(w); len(l) != 0 {
			t.Errorf("Items of %v: %v", w, l)
		}
	}
}

// P17.1
func TestSet(t *testing.T) {
	for _, c := range []struct {
		w          Wheel
		who, ticks int
		want       Wheel
	}{
		{Wheel{}, 1, 1, of(0, item(1, 1))},
		{Wheel{}, 8, 8, of(0, item(8, 8))},
		{Wheel{}, 8, end, of(0, item(8, end))},
		{Wheel{Now: 100}, 3, 4, of(100, item(3, 104))},
		{Wheel{Now: end - 1}, 3, 1, of(end-1, item(3, end))},
		{Wheel{Now: 1}, 3, end - 1, of(1, item(3, end))},
		// Ahead of all of its slot, between two, and behind all, by the Until, and by the Who.
		{few(), 6, 1, of(100, item(3, 101), item(6, 101), item(5, 104), item(1, 112), item(7, 112), item(8, 107), item(4, 503))},
		{few(), 2, 1, of(100, item(2, 101), item(3, 101), item(5, 104), item(1, 112), item(7, 112), item(8, 107), item(4, 503))},
		{few(), 2, 4, of(100, item(2, 104), item(5, 104), item(1, 112), item(7, 112), item(3, 101), item(8, 107), item(4, 503))},
		{few(), 6, 4, of(100, item(5, 104), item(6, 104), item(1, 112), item(7, 112), item(3, 101), item(8, 107), item(4, 503))},
		{few(), 2, 12, of(100, item(5, 104), item(1, 112), item(2, 112), item(7, 112), item(3, 101), item(8, 107), item(4, 503))},
		{few(), 6, 20, of(100, item(5, 104), item(1, 112), item(7, 112), item(6, 120), item(3, 101), item(8, 107), item(4, 503))},
		{few(), 2, end - 100, of(100, item(5, 104), item(1, 112), item(7, 112), item(3, 101), item(8, 107), item(4, 503), item(2, end))},
		{few(), 2, 300 + 7, of(100, item(5, 104), item(1, 112), item(7, 112), item(3, 101), item(8, 107), item(2, 407), item(4, 503))},
		{few(), 2, 5, of(100, item(5, 104), item(1, 112), item(7, 112), item(3, 101), item(8, 107), item(4, 503), item(2, 105))},
		{of(100, item(1, 112), item(2, 120)), 8, 4, of(100, item(8, 104), item(1, 112), item(2, 120))},
		{of(100, item(1, 104), item(2, 120)), 8, 12, of(100, item(1, 104), item(8, 112), item(2, 120))},
		{of(100, item(7, 104), item(8, 112)), 1, 20, of(100, item(7, 104), item(8, 112), item(1, 120))},
		{late(), 3, 9, of(end-9, item(2, end-8), item(8, end-8), item(4, end-7), item(1, end-1), item(3, end), item(6, end), item(7, end))},
	} {
		w, e := Set(c.w, c.who, c.ticks)
		wantWheel(t, w, c.want, e, api.OK, "Set", c.w, c.who, c.ticks)
	}
}

// P17.1: the time of Set is that of layer 4's After, up to the last one.
func TestSetAtTheEdge(t *testing.T) {
	for _, now := range rightNows() {
		for _, ticks := range []int{1, 2, 7, 8, 9, 255, 256, 1 << 16, 1 << 30, end - now - 2, end - now - 1, end - now, end - now + 1, end - now + 2, end, end + 1, turn, turn + 1, math.MaxInt - now, math.MaxInt - 1, math.MaxInt} {
			want, wantE := Wheel{}, api.OK
			switch {
			case ticks < 1:
				wantE = api.ErrArg
			case ticks > end-now:
				wantE = api.ErrClock
			default:
				want = of(now, item(4, now+ticks))
			}
			w, e := Set(Wheel{Now: now}, 4, ticks)
			wantWheel(t, w, want, e, wantE, "Set", now, ticks)
		}
	}
}

// P17.1: which of several errors Set tells.
func TestSetErrors(t *testing.T) {
	tooFew := []int{0, -1, -2, -100, -101, -end, -turn + 1, math.MinInt, math.MinInt + 1}
	tooMany := []int{end - 99, end - 98, end, end + 1, turn, turn + 1, math.MaxInt - 100, math.MaxInt}
	for _, w := range []Wheel{few(), {Now: 100}, of(100, item(5, end))} {
		for _, ticks := range tooFew {
			v, e := Set(w, 2, ticks)
			wantWheel(t, v, Wheel{}, e, api.ErrArg, "Set", w, 2, ticks)
		}
		for _, ticks := range tooMany {
			v, e := Set(w, 2, ticks)
			wantWheel(t, v, Wheel{}, e, api.ErrClock, "Set", w, 2, ticks)
		}
		for _, who := range wrongWhos() {
			for _, ticks := range slices.Concat(tooFew, tooMany, []int{1, 4, 8}) {
				v, e := Set(w, who, ticks)
				wantWheel(t, v, Wheel{}, e, api.ErrArg, "Set", w, who, ticks)
			}
		}
		for _, i := range Items(w) {
			for _, ticks := range slices.Concat(tooFew, tooMany, []int{1, 4, 8, i.Until - 100}) {
				v, e := Set(w, i.Who, ticks)
				wantWheel(t, v, Wheel{}, e, api.ErrWait, "Set", w, i.Who, ticks)
			}
		}
	}
	for who := 1; who <= 8; who++ {
		for _, w := range []Wheel{oneEach(), inOne(), atOnce()} {
			v, e := Set(w, who, 1)
			wantWheel(t, v, Wheel{}, e, api.ErrWait, "Set", w, who)
		}
		v, e := Set(Wheel{Now: end}, who, 1)
		wantWheel(t, v, Wheel{}, e, api.ErrClock, "Set", end, who)
	}
}

// P17.1: whoever is of a wheel, and nobody else, can be cleared, once.
func TestClear(t *testing.T) {
	for _, w := range rightWheels() {
		for who := 1; who <= 8; who++ {
			want, wantE := w, api.ErrNone
			for place, slot := range w.Slots {
				rest := items()
				for _, i := range slot {
					if i.Who == who {
						wantE = api.OK
					} else {
						rest = append(rest, i)
					}
				}
				want.Slots[place] = rest
			}
			if wantE != api.OK {
				want = Wheel{}
			}
			v, e := Clear(w, who)
			wantWheel(t, v, want, e, wantE, "Clear", w, who)
			if again, e := Clear(v, who); e != api.ErrNone || !sameWheel(again, Wheel{}) {
				t.Errorf("Clear of %d in %v: %v, %d", who, v, again, e)
			}
		}
	}
	for _, w := range []Wheel{{}, few(), oneEach(), inOne()} {
		for _, who := range wrongWhos() {
			v, e := Clear(w, who)
			wantWheel(t, v, Wheel{}, e, api.ErrNone, "Clear", w, who)
		}
	}
}

// P17.1: who is cleared can be set again, as if they had not been there.
func TestClearAndSet(t *testing.T) {
	for _, w := range rightWheels() {
		for _, i := range Items(w) {
			v, e := Clear(w, i.Who)
			if e != api.OK {
				t.Errorf("Clear of %d in %v: %d", i.Who, w, e)
			}
			again, e := Set(v, i.Who, i.Until-w.Now)
			wantWheel(t, again, w, e, api.OK, "Set", v, i)
		}
	}
}

// P17.1
func TestItems(t *testing.T) {
	for _, c := range []struct {
		w    Wheel
		want []Item
	}{
		{Wheel{}, nil},
		{Wheel{Now: end}, nil},
		{of(0, item(8, 1)), items(item(8, 1))},
		{few(), items(item(3, 101), item(5, 104), item(8, 107), item(1, 112), item(7, 112), item(4, 503))},
		{oneEach(), items(item(7, 101), item(3, 104), item(5, 107), item(4, 110), item(8, 113), item(1, 138), item(6, 191), item(2, 1108))},
		{inOne(), items(item(5, 104), item(2, 112), item(6, 112), item(7, 112), item(1, 120), item(8, 128), item(3, 136), item(4, 136))},
		{atOnce(), items(item(1, 103), item(2, 103), item(3, 103), item(4, 103), item(5, 103), item(6, 103), item(7, 103), item(8, 103))},
		{late(), items(item(2, end-8), item(8, end-8), item(4, end-7), item(1, end-1), item(6, end), item(7, end))},
		{of(0, item(1, 8), item(2, 1), item(3, 9)), items(item(2, 1), item(1, 8), item(3, 9))},
		{of(6, item(2, 7), item(1, 8)), items(item(2, 7), item(1, 8))},
	} {
		if l := Items(c.w); !slices.Equal(l, c.want) {
			t.Errorf("Items of %v: %v and not %v", c.w, l, c.want)
		}
	}
}

// P17.2
func TestTurn(t *testing.T) {
	for _, c := range []struct {
		w     Wheel
		ticks int
		want  Wheel
		woken []Item
	}{
		{Wheel{}, 1, Wheel{Now: 1}, nil},
		{Wheel{}, end, Wheel{Now: end}, nil},
		{Wheel{Now: end - 1}, 1, Wheel{Now: end}, nil},
		{of(0, item(8, 3)), 2, of(2, item(8, 3)), nil},
		{of(0, item(8, 3)), 3, of(3), items(item(8, 3))},
		{of(2, item(8, 3)), 1, of(3), items(item(8, 3))},
		{of(0, item(8, 3)), 11, of(11), items(item(8, 3))},
		{of(0, item(8, 11)), 3, of(3, item(8, 11)), nil},
		{of(0, item(8, 9)), 9, of(9), items(item(8, 9))},
		{few(), 1, of(101, item(5, 104), item(1, 112), item(7, 112), item(8, 107), item(4, 503)), items(item(3, 101))},
		{few(), 3, of(103, item(5, 104), item(1, 112), item(7, 112), item(8, 107), item(4, 503)), items(item(3, 101))},
		{few(), 4, of(104, item(1, 112), item(7, 112), item(8, 107), item(4, 503)), items(item(3, 101), item(5, 104))},
		{few(), 7, of(107, item(1, 112), item(7, 112), item(4, 503)), items(item(3, 101), item(5, 104), item(8, 107))},
		{few(), 8, of(108, item(1, 112), item(7, 112), item(4, 503)), items(item(3, 101), item(5, 104), item(8, 107))},
		{few(), 11, of(111, item(1, 112), item(7, 112), item(4, 503)), items(item(3, 101), item(5, 104), item(8, 107))},
		{few(), 12, of(112, item(4, 503)), items(item(3, 101), item(5, 104), item(8, 107), item(1, 112), item(7, 112))},
		{few(), 402, of(502, item(4, 503)), items(item(3, 101), item(5, 104), item(8, 107), item(1, 112), item(7, 112))},
		{few(), 403, of(503), items(item(3, 101), item(5, 104), item(8, 107), item(1, 112), item(7, 112), item(4, 503))},
		{few(), end - 100, of(end), items(item(3, 101), item(5, 104), item(8, 107), item(1, 112), item(7, 112), item(4, 503))},
		{atOnce(), 2, Wheel{Now: 102, Slots: atOnce().Slots}, nil},
		{atOnce(), 3, of(103), atOnce().Slots[7]},
		{inOne(), 12, of(112, item(1, 120), item(8, 128), item(3, 136), item(4, 136)), items(item(5, 104), item(2, 112), item(6, 112), item(7, 112))},
		{inOne(), 19, of(119, item(1, 120), item(8, 128), item(3, 136), item(4, 136)), items(item(5, 104), item(2, 112), item(6, 112), item(7, 112))},
		{inOne(), 35, of(135, item(3, 136), item(4, 136)), items(item(5, 104), item(2, 112), item(6, 112), item(7, 112), item(1, 120), item(8, 128))},
		{oneEach(), 10, of(110, item(8, 113), item(1, 138), item(6, 191), item(2, 1108)), items(item(7, 101), item(3, 104), item(5, 107), item(4, 110))},
		{late(), 1, of(end-8, item(4, end-7), item(1, end-1), item(6, end), item(7, end)), items(item(2, end-8), item(8, end-8))},
		{late(), 8, of(end-1, item(6, end), item(7, end)), items(item(2, end-8), item(8, end-8), item(4, end-7), item(1, end-1))},
		{late(), 9, of(end), items(item(2, end-8), item(8, end-8), item(4, end-7), item(1, end-1), item(6, end), item(7, end))},
	} {
		w, l, e := Turn(c.w, c.ticks)
		wantWheel(t, w, c.want, e, api.OK, "Turn", c.w, c.ticks)
		if !slices.Equal(l, c.woken) {
			t.Errorf("Turn of %v by %d: %v and not %v", c.w, c.ticks, l, c.woken)
		}
		if !Right(w) {
			t.Errorf("Turn of %v by %d: %v is none", c.w, c.ticks, w)
		}
	}
}

// P17.2: with an error the wheel is as it was, and nobody is woken.
func TestTurnErrors(t *testing.T) {
	for _, w := range rightWheels() {
		left := end - w.Now
		for _, ticks := range []int{0, -1, -2, -w.Now, -w.Now - 1, -end, -turn + 1, math.MinInt, math.MinInt + 1} {
			v, l, e := Turn(w, ticks)
			wantWheel(t, v, w, e, api.ErrArg, "Turn", w, ticks)
			if len(l) != 0 {
				t.Errorf("Turn of %v by %d: %v", w, ticks, l)
			}
		}
		for _, ticks := range []int{left + 1, left + 2, end + 1, turn, turn + 1, math.MaxInt - w.Now, math.MaxInt} {
			v, l, e := Turn(w, ticks)
			wantWheel(t, v, w, e, api.ErrClock, "Turn", w, ticks)
			if len(l) != 0 {
				t.Errorf("Turn of %v by %d: %v", w, ticks, l)
			}
		}
	}
}

// P17.2, P17.3, and the chapter's example: who is set 3 ticks is told behind the 3rd.
func TestTurnOfTheExamples(t *testing.T) {
	w, _ := New(0)
	w, _ = Set(w, 1, 3)
	w, l, e := Turn(w, 2)
	wantWheel(t, w, of(2, item(1, 3)), e, api.OK, "Turn by 2")
	if len(l) != 0 {
		t.Errorf("too soon: %v", l)
	}
	w, l, e = Turn(w, 1)
	wantWheel(t, w, of(3), e, api.OK, "Turn by 1")
	if !slices.Equal(l, items(item(1, 3))) {
		t.Errorf("late: %v", l)
	}
	// The ninth of the ten of the whole: of 9 ticks, turned by 9.
	w, _ = Set(w, 1, 9)
	w, l, e = Turn(w, 9)
	wantWheel(t, w, of(12), e, api.OK, "Turn by 9")
	if !slices.Equal(l, items(item(1, 12))) {
		t.Errorf("late: %v", l)
	}
}
