package wheel

import (
	"slices"
	"testing"

	"handshaker/api"
)

// picks tell numbers below a bound, always the same ones.
type picks uint64

func (p *picks) below(n int) int {
	*p = *p*6364136223846793005 + 1442695040888963407
	return int(uint64(*p)>>33) % n
}

// isWheel is what the chapter's words ask, taken one by one, of each two items.
func isWheel(w Wheel) bool {
	right := 0 <= w.Now && w.Now <= 1<<31-1
	var ahead []Item
	for place, slot := range w.Slots {
		for at, i := range slot {
			right = right && 1 <= i.Who && i.Who <= 8
			right = right && w.Now < i.Until && i.Until <= 1<<31-1 && i.Until-i.Until/8*8 == place
			for _, other := range slot[:at] {
				right = right && other.Until <= i.Until && (other.Until < i.Until || other.Who < i.Who)
			}
			for _, other := range ahead {
				right = right && other.Who != i.Who
			}
			ahead = append(ahead, i)
		}
	}
	return right
}

// P17.1: every two items of a few Whos, Untils and Slots, and three in one slot.
func TestRightOfEachSmallWheel(t *testing.T) {
	var all []Item
	for _, who := range []int{0, 1, 2, 5, 8, 9} {
		for _, until := range []int{100, 101, 103, 104, 105, 112} {
			all = append(all, item(who, until))
		}
	}
	count, whole := 0, 0
	want := func(w Wheel) {
		whole++
		right := isWheel(w)
		if right {
			count++
		}
		if got := Right(w); got != right {
			t.Fatalf("Right of %v: %v", w, got)
		}
	}
	for _, first := range all {
		for _, second := range all {
			for place := range 8 {
				for other := range 8 {
					want(with(with(Wheel{Now: 100}, place, first), other, second))
				}
			}
			for _, third := range all {
				want(with(Wheel{Now: 100}, 0, first, second, third))
				want(of(100, first, second, third))
			}
		}
	}
	if count < 400 || count > whole/10 {
		t.Errorf("%d of %d are right", count, whole)
	}
}

// book tells by who is there when they are woken; 0 is nobody's.
type book struct {
	now    int
	untils [9]int
}

// items looks for the next one, again and again.
func (b book) items() []Item {
	var l []Item
	for {
		next := Item{}
		for who := 1; who <= 8; who++ {
			if b.untils[who] > 0 && (next.Who == 0 || b.untils[who] < next.Until) {
				next = item(who, b.untils[who])
			}
		}
		if next.Who == 0 {
			return l
		}
		l = append(l, next)
		b.untils[next.Who] = 0
	}
}

func (b book) wheel() Wheel { return of(b.now, b.items()...) }

func (b *book) set(who, ticks int) api.Errno {
	switch {
	case who < 1 || who > 8:
		return api.ErrArg
	case b.untils[who] > 0:
		return api.ErrWait
	case ticks < 1:
		return api.ErrArg
	case ticks > 1<<31-1 || b.now+ticks > 1<<31-1:
		return api.ErrClock
	}
	b.untils[who] = b.now + ticks
	return api.OK
}

func (b *book) clear(who int) api.Errno {
	if who < 1 || who > 8 || b.untils[who] == 0 {
		return api.ErrNone
	}
	b.untils[who] = 0
	return api.OK
}

func (b *book) turn(ticks int) ([]Item, api.Errno) {
	switch {
	case ticks < 1:
		return nil, api.ErrArg
	case ticks > 1<<31-1 || b.now+ticks > 1<<31-1:
		return nil, api.ErrClock
	}
	b.now += ticks
	var woken []Item
	for _, i := range b.items() {
		if i.Until <= b.now {
			woken = append(woken, i)
			b.untils[i.Who] = 0
		}
	}
	return woken, api.OK
}

// walk is a wheel, and a book of it; it counts how often each call ended so.
type walk struct {
	t   *testing.T
	p   picks
	w   Wheel
	b   book
	met map[string]int
}

func (x *walk) want(e, wantE api.Errno, call string, told ...int) {
	x.t.Helper()
	x.met[call+string(rune('0'+wantE))]++
	if e != wantE || !sameWheel(x.w, x.b.wheel()) || !Right(x.w) {
		x.t.Fatalf("%s %v: %v, %d and not %v, %d", call, told, x.w, e, x.b.wheel(), wantE)
	}
	if l := Items(x.w); !slices.Equal(l, x.b.items()) {
		x.t.Fatalf("behind %s %v: items %v and not %v", call, told, l, x.b.items())
	}
}

// who is one of the eight but for now and then.
func (x *walk) who() int {
	if x.p.below(30) == 0 {
		return x.p.below(12) - 1
	}
	return 1 + x.p.below(8)
}

// ticks are few more often than many, none, or too many.
func (x *walk) ticks() int {
	switch x.p.below(40) {
	case 0:
		return -x.p.below(3)
	case 1:
		return end - x.w.Now + x.p.below(5) - 1
	case 2:
		return turn + x.p.below(20)
	case 3:
		return 1 + x.p.below(1000)
	}
	return 1 + x.p.below(30)
}

func (x *walk) set() {
	who, ticks := x.who(), x.ticks()
	v, e := Set(x.w, who, ticks)
	wantE := x.b.set(who, ticks)
	if wantE == api.OK {
		x.w = v
	} else if !sameWheel(v, Wheel{}) {
		x.t.Fatalf("Set of %d and %d in %v: %v beside %d", who, ticks, x.w, v, e)
	}
	x.want(e, wantE, "set", who, ticks)
}

func (x *walk) clear() {
	who := x.who()
	v, e := Clear(x.w, who)
	wantE := x.b.clear(who)
	if wantE == api.OK {
		x.w = v
	} else if !sameWheel(v, Wheel{}) {
		x.t.Fatalf("Clear of %d in %v: %v beside %d", who, x.w, v, e)
	}
	x.want(e, wantE, "clear", who)
}

func (x *walk) turn() {
	var woken []Item
	var e api.Errno
	ticks := x.ticks()
	x.w, woken, e = Turn(x.w, ticks)
	want, wantE := x.b.turn(ticks)
	x.want(e, wantE, "turn", ticks)
	x.met["woken"] += len(want)
	if !slices.Equal(woken, want) {
		x.t.Fatalf("turned by %d to %v: %v and not %v", ticks, x.w, woken, want)
	}
}

// P17.1, P17.2: long runs beside a book, from the first time on, and up to the last.
func TestLongRuns(t *testing.T) {
	met := map[string]int{}
	for seed := range 600 {
		x := walk{t: t, p: picks(seed), met: met}
		x.b.now = []int{0, x.p.below(1000), end - 1 - x.p.below(300), x.p.below(end)}[seed%4]
		x.w, _ = New(x.b.now)
		for range 150 {
			switch n := x.p.below(10); {
			case n < 5:
				x.set()
			case n < 6:
				x.clear()
			default:
				x.turn()
			}
		}
	}
	for _, kind := range []string{"set0", "set1", "set6", "set9", "clear0", "clear3", "turn0", "turn1", "turn6", "woken"} {
		if met[kind] < 300 {
			t.Errorf("%s came %d times", kind, met[kind])
		}
	}
}

// full is any wheel, of up to eight items, not far from one another.
func (p *picks) full() Wheel {
	b := book{now: p.below(3) * p.below(end/3)}
	if p.below(4) == 0 {
		b.now = end - 20 - p.below(30)
	}
	reach := []int{3, 12, 20, 60}[p.below(4)]
	for who := 1; who <= 8; who++ {
		if p.below(5) > 0 {
			b.untils[who] = min(b.now+1+p.below(reach), end)
		}
	}
	return b.wheel()
}

// P17.3: turned by 1 each time, everybody is woken just at their time.
func TestNobodyAheadOrLate(t *testing.T) {
	p, woken := picks(3), 0
	for range 3000 {
		first := p.full()
		w, left := first, Items(first)
		for w.Now < min(first.Now+70, end) {
			v, l, e := Turn(w, 1)
			if e != api.OK || v.Now != w.Now+1 {
				t.Fatalf("Turn of %v: %v, %d", w, v, e)
			}
			for _, i := range l {
				woken++
				if i.Until != v.Now || i != left[0] {
					t.Fatalf("as of %d %v is woken of %v", v.Now, i, left)
				}
				left = left[1:]
			}
			if !slices.Equal(Items(v), left) {
				t.Fatalf("%v has not %v", v, left)
			}
			w = v
		}
		if len(left) > 0 {
			t.Fatalf("of %v sleep %v", first, left)
		}
	}
	if woken < 10000 {
		t.Errorf("%d were woken", woken)
	}
}

// steps turns a wheel step by step, and tells everybody who is woken.
func steps(t *testing.T, w Wheel, ticks ...int) (Wheel, []Item) {
	t.Helper()
	var woken []Item
	for _, n := range ticks {
		v, l, e := Turn(w, n)
		if e != api.OK {
			t.Fatalf("Turn of %v by %d: %d", w, n, e)
		}
		w, woken = v, append(woken, l...)
	}
	return w, woken
}

// cut is a number of ticks in steps: a bit says whether a step ends behind its tick.
func cut(ticks, bits int) []int {
	l := []int{1}
	for tick := range ticks - 1 {
		if bits&(1<<tick) != 0 {
			l = append(l, 0)
		}
		l[len(l)-1]++
	}
	return l
}

// P17.3: 12 ticks taken in every way in which they come of steps.
func TestEachWayOfSteps(t *testing.T) {
	p := picks(5)
	wheels := []Wheel{few(), oneEach(), inOne(), atOnce(), of(100, item(1, 101), item(2, 101), item(3, 109), item(7, 112), item(8, 113))}
	for range 30 {
		wheels = append(wheels, p.full())
	}
	for _, w := range wheels {
		at, once := steps(t, w, 12)
		for bits := range 1 << 11 {
			v, woken := steps(t, w, cut(12, bits)...)
			if !sameWheel(v, at) || !slices.Equal(woken, once) {
				t.Fatalf("of %v by %v: %v and %v, at once %v and %v", w, cut(12, bits), v, woken, at, once)
			}
		}
	}
}

// P17.3: many ticks, in some steps of any length, some of them more than all slots.
func TestSomeWaysOfSteps(t *testing.T) {
	p, woken := picks(11), 0
	for range 20000 {
		w := p.full()
		var ticks []int
		sum, most := 0, 1+p.below([]int{4, 9, 30}[p.below(3)])
		for range 1 + p.below(8) {
			n := min(1+p.below(most), end-w.Now-sum)
			if n > 0 {
				ticks, sum = append(ticks, n), sum+n
			}
		}
		v, l := steps(t, w, ticks...)
		at, once := steps(t, w, sum)
		if !sameWheel(v, at) || !slices.Equal(l, once) {
			t.Fatalf("of %v by %v: %v and %v, at once %v and %v", w, ticks, v, l, at, once)
		}
		woken += len(once)
	}
	if woken < 20000 {
		t.Errorf("%d were woken", woken)
	}
}

// P17.3: whoever is set between two steps is woken as if they had been set at first.
func TestSetBetweenSteps(t *testing.T) {
	p := picks(17)
	for range 5000 {
		w := p.full()
		w, _ = steps(t, w, 1)
		step, more := 1+p.below(9), 1+p.below(9)
		for who := 1; who <= 8; who++ {
			early, e := Set(w, who, step+more)
			if e != api.OK {
				continue
			}
			late, _ := steps(t, w, step)
			late, e = Set(late, who, more)
			early, _ = steps(t, early, step)
			wantWheel(t, late, early, e, api.OK, "Set behind a step", w, who)
		}
	}
}

// P17.1: those who are set in each order are the same wheel.
func TestEachOrderOfSets(t *testing.T) {
	for _, want := range []Wheel{oneEach(), inOne(), atOnce()} {
		count := 0
		all := Items(want)
		var each func(w Wheel, left []Item)
		each = func(w Wheel, left []Item) {
			if len(left) == 0 {
				count++
				if !sameWheel(w, want) {
					t.Fatalf("%v and not %v", w, want)
				}
			}
			for place, i := range left {
				next, e := Set(w, i.Who, i.Until-w.Now)
				if e != api.OK {
					t.Fatalf("Set of %v in %v: %d", i, w, e)
				}
				each(next, slices.Delete(slices.Clone(left), place, place+1))
			}
		}
		each(Wheel{Now: 100}, all)
		if count != 40320 {
			t.Errorf("%d orders", count)
		}
	}
}

// P17.1, P17.2: of every set of the eight, each one is cleared, and all are turned by
// each few ticks.
func TestOfEachSet(t *testing.T) {
	for _, all := range [][]Item{Items(oneEach()), Items(inOne()), Items(atOnce())} {
		for set := range 1 << 8 {
			b := book{now: 100}
			for place, i := range all {
				if set&(1<<place) != 0 {
					b.untils[i.Who] = i.Until
				}
			}
			w := b.wheel()
			for who := 0; who <= 9; who++ {
				left := b
				want, wantE := Wheel{}, left.clear(who)
				if wantE == api.OK {
					want = left.wheel()
				}
				v, e := Clear(w, who)
				wantWheel(t, v, want, e, wantE, "Clear", w, who)
			}
			for ticks := 1; ticks <= 42; ticks++ {
				left := b
				want, wantE := left.turn(ticks)
				v, l, e := Turn(w, ticks)
				wantWheel(t, v, left.wheel(), e, wantE, "Turn", w, ticks)
				if !slices.Equal(l, want) {
					t.Errorf("Turn of %v by %d: %v and not %v", w, ticks, l, want)
				}
			}
		}
	}
}
