package filter

import (
	"math"
	"slices"
	"testing"

	"handshaker/api"
	"handshaker/heap"
	"handshaker/sleep"
	"handshaker/term"
)

const (
	end      = api.MaxClock
	least    = -api.MaxValue - 1
	greatest = api.MaxValue
	turn     = 1 << 32
)

// free is a cell that is not live.
var free = api.Cell{}

func put(cell, value int) api.Write           { return api.Write{Cell: cell, Value: value} }
func live(value int) api.Cell                 { return api.Cell{Live: true, Value: value} }
func num(n int) term.Op                       { return term.Op{Kind: term.Const, N: n} }
func cell(n int) term.Op                      { return term.Op{Kind: term.Cell, N: n} }
func reg(n int) term.Op                       { return term.Op{Kind: term.Reg, N: n} }
func op(kind int) term.Op                     { return term.Op{Kind: kind} }
func writes(l ...api.Write) []api.Write       { return l }
func cells(l ...api.Cell) []api.Cell          { return l }
func ops(l ...term.Op) []term.Op              { return l }
func list(l ...sleep.Sleeper) []sleep.Sleeper { return l }
func numbers(l ...int) []int                  { return l }

func anyOf(who int, w ...api.Write) sleep.Sleeper {
	return sleep.Sleeper{Who: who, Mode: sleep.Any, Watch: w}
}

func otherOf(who int, w ...api.Write) sleep.Sleeper {
	return sleep.Sleeper{Who: who, Mode: sleep.Other, Watch: w}
}

// holds watches just what its term names, each cell with its number and 100 as its value.
func holds(who int, t ...term.Op) sleep.Sleeper {
	s := sleep.Sleeper{Who: who, Mode: sleep.Holds, Term: t}
	for n := range 64 {
		if slices.Contains(t, cell(n)) {
			s.Watch = append(s.Watch, put(n, 100+n))
		}
	}
	return s
}

func as(who int, s sleep.Sleeper) sleep.Sleeper              { s.Who = who; return s }
func until(time int, s sleep.Sleeper) sleep.Sleeper          { s.Until = time; return s }
func inMode(mode int, s sleep.Sleeper) sleep.Sleeper         { s.Mode = mode; return s }
func watching(s sleep.Sleeper, w ...api.Write) sleep.Sleeper { s.Watch = w; return s }
func withTerm(s sleep.Sleeper, t ...term.Op) sleep.Sleeper   { s.Term = t; return s }

// with has another cell in one place.
func with(h []api.Cell, n int, c api.Cell) []api.Cell {
	h = slices.Clone(h)
	h[n] = c
	return h
}

func without(l []sleep.Sleeper, whos ...int) []sleep.Sleeper {
	return keep(l, func(s sleep.Sleeper) bool { return !slices.Contains(whos, s.Who) })
}

func sameList(l, other []sleep.Sleeper) bool { return slices.EqualFunc(l, other, sameSleeper) }

func keep[A any](l []A, right func(A) bool) (kept []A) {
	for _, a := range l {
		if right(a) {
			kept = append(kept, a)
		}
	}
	return kept
}

func sameSleeper(s, other sleep.Sleeper) bool {
	return s.Who == other.Who && s.Mode == other.Mode && s.Until == other.Until && slices.Equal(s.Watch, other.Watch) && slices.Equal(s.Term, other.Term)
}

// count is a heap of n live cells, each of its number.
func count(n int) []api.Cell {
	var h []api.Cell
	for value := range n {
		h = append(h, live(value))
	}
	return h
}

// usual is a heap of 64 cells, each of its number, but that 7 and 20 are free.
func usual() []api.Cell { return with(with(count(64), 7, free), 20, free) }

// many are n watched cells, that are as far from one another as there is room for, each
// of its number; 7 and 20 are none of 24.
func many(n int) []api.Write {
	var l []api.Write
	for place := range n {
		l = append(l, put(place*64/n, place*64/n))
	}
	return l
}

// everybody are eight of all modes, who watch some of the same cells. By the usual heap
// none of Other may go on; of Holds only 7 may, who watches nothing, as 4 does.
func everybody() []sleep.Sleeper {
	return list(
		anyOf(1, put(0, 5), put(3, -7), put(63, greatest)),
		until(9, otherOf(2, put(3, 3), put(9, 9))),
		until(end, holds(3, cell(9), cell(3), op(term.Below))),
		anyOf(4),
		until(1, otherOf(5, many(24)...)),
		holds(6, cell(0), cell(63), op(term.Plus), num(70), op(term.Equal)),
		holds(7, num(1)),
		until(4, otherOf(8, put(63, 63))),
	)
}

// some are those of everybody whose bit is set, of 1 the lowest one.
func some(set int) []sleep.Sleeper {
	return keep(everybody(), func(s sleep.Sleeper) bool { return set&(1<<(s.Who-1)) != 0 })
}

// heaps are such as some of everybody may go on by, and such as nobody of Other and
// Holds may but 7.
func heaps() [][]api.Cell {
	h := usual()
	return [][]api.Cell{
		h, with(h, 7, live(0)), with(h, 20, live(20)), with(h, 1, live(-1)), with(h, 3, live(10)), with(h, 3, live(9)), with(h, 9, live(2)), with(h, 9, free), with(h, 3, free),
		with(h, 0, free), with(h, 0, live(7)), with(h, 63, live(70)), with(h, 63, free), with(with(h, 0, live(greatest)), 63, live(least+71)), with(h, 61, live(0)), with(h, 2, free),
		h[:63], h[:62], h[:61], h[:10], h[:9], h[:4], h[:3], h[:1], cells(free), make([]api.Cell, 64), cells(live(greatest)), cells(live(least), live(0)),
	}
}

// wrongHeaps are none: of no cell, of too many, and of one that may not be, wherever.
func wrongHeaps() [][]api.Cell {
	all := [][]api.Cell{nil, {}, count(65), make([]api.Cell, 65), count(1<<16 + 1)}
	for _, h := range [][]api.Cell{cells(live(1)), count(3), usual()} {
		for _, place := range []int{0, len(h) / 2, len(h) - 1} {
			for _, value := range []int{1, -1, least, greatest, turn} {
				all = append(all, with(h, place, api.Cell{Value: value}))
			}
			for _, value := range wrongValues() {
				all = append(all, with(h, place, live(value)))
			}
		}
	}
	return all
}

func wrongValues() []int {
	return []int{least - 1, least - 2, greatest + 1, greatest + 2, turn, turn + 3, -turn, math.MinInt, math.MinInt + 3, math.MaxInt}
}

// wrongCells may not be watched; some of them come back to one that may, if they are cut
// to fewer bits.
func wrongCells() []int {
	return []int{-1, -2, -64, 64, 65, 67, 128, 256 + 3, turn, turn + 3, -turn, -turn + 3, math.MinInt, math.MinInt + 3, math.MaxInt}
}

func wrongWhos() []int {
	return []int{0, -1, -2, -8, 9, 10, 16, 257, turn, turn + 1, -turn + 8, math.MinInt, math.MinInt + 1, math.MaxInt}
}

func wrongTimes() []int {
	return []int{-1, -end, -end - 1, end + 1, end + 2, turn - 1, turn, turn + 7, -turn + 7, math.MinInt, math.MinInt + 7, math.MaxInt}
}

func wrongModes() []int {
	return []int{0, -1, -2, -3, 4, 5, 257, turn + 1, turn + 2, turn + 3, -turn + 1, math.MinInt, math.MinInt + 3, math.MaxInt}
}

// wrongTerms are none of one who Holds.
func wrongTerms() [][]term.Op {
	long := ops(num(1))
	for range 12 {
		long = append(long, op(term.Not))
	}
	return [][]term.Op{
		nil, {}, long, make([]term.Op, 1<<16+1), ops(num(1), num(1)), ops(op(term.Not)), ops(num(1), op(term.Plus)), ops(num(1), op(12)), ops(num(1), op(0)), ops(num(1), num(1), term.Op{Kind: term.Plus, N: 1}),
		ops(num(least - 1)), ops(num(greatest + 1)), ops(num(turn + 1)), ops(cell(-1)), ops(cell(64)), ops(cell(turn + 1)), ops(reg(8)), ops(reg(-1)),
		ops(reg(0)), ops(reg(7)), ops(num(1), reg(0), op(term.Either)), ops(reg(1), op(term.Not)), ops(cell(1), reg(0), op(term.Plus)),
	}
}

// goesOn are one of each mode who may go on by the usual heap.
func goesOn() []sleep.Sleeper {
	return list(anyOf(3, put(3, 4), put(9, 9)), otherOf(3, put(3, 4), put(9, 9)), holds(3, cell(3), cell(9), op(term.Both)), anyOf(3), holds(3, num(1)), otherOf(3, put(7, 0)))
}

// wrongSleepers are none, each for one thing, but for which they may go on by the usual
// heap.
func wrongSleepers() []sleep.Sleeper {
	all := list(sleep.Sleeper{}, sleep.Sleeper{Who: 1}, sleep.Sleeper{Mode: sleep.Any})
	for _, s := range goesOn() {
		for _, who := range wrongWhos() {
			all = append(all, as(who, s))
		}
		for _, time := range wrongTimes() {
			all = append(all, until(time, s))
		}
		for _, mode := range wrongModes() {
			all = append(all, inMode(mode, s))
		}
		for _, t := range wrongTerms() {
			if s.Mode == sleep.Holds || len(t) > 0 {
				all = append(all, withTerm(s, t...))
			}
		}
	}
	return append(append(all, wrongOfTerms()...), wrongOfWatches()...)
}

// wrongOfTerms are those whose term is not that of their mode, or of their Watch.
func wrongOfTerms() []sleep.Sleeper {
	all := list(watching(holds(3, num(1)), put(3, 4)), watching(holds(3, cell(1))), watching(holds(3, cell(1)), put(2, 2)), watching(holds(3, cell(1)), put(1, 1), put(2, 2)))
	for _, t := range [][]term.Op{ops(num(0)), ops(num(1)), ops(cell(3), cell(9), op(term.Both))} {
		all = append(all, inMode(sleep.Any, holds(3, t...)), inMode(sleep.Other, holds(3, t...)), withTerm(otherOf(3, put(3, 4)), t...))
	}
	return append(all, inMode(sleep.Holds, anyOf(3, put(3, 4))), watching(holds(3, cell(1), cell(2), op(term.Both)), put(2, 2), put(1, 1)))
}

func wrongOfWatches() []sleep.Sleeper {
	w := [][]api.Write{
		append(many(24), put(63, 9)), make([]api.Write, 25), make([]api.Write, 1<<16+1), many(64), writes(put(9, 4), put(3, 4)), writes(put(3, 4), put(3, 4)), writes(put(3, 4), put(3, 5)), writes(put(0, 1), put(9, 4), put(3, 4)),
	}
	for _, n := range wrongCells() {
		w = append(w, writes(put(n, 1)), writes(put(n, 1), put(3, 4)), writes(put(3, 4), put(n, 1)))
	}
	for _, value := range wrongValues() {
		w = append(w, writes(put(3, value)), writes(put(3, value), put(9, 4)), writes(put(3, 4), put(9, value)))
	}
	var all []sleep.Sleeper
	for _, one := range w {
		all = append(all, anyOf(3, one...), otherOf(3, one...))
	}
	return append(all, watching(holds(3, cell(3)), put(3, greatest+1)), watching(holds(3, cell(3)), put(3, least-1)))
}

// wrongLists are none: of a wrong one wherever it stands, out of order, and of one twice.
func wrongLists() [][]sleep.Sleeper {
	var all [][]sleep.Sleeper
	for _, s := range wrongSleepers() {
		all = append(all, list(s), list(anyOf(1, put(3, 3)), s, anyOf(8, put(3, 3))), list(anyOf(1, put(3, 3)), anyOf(2, put(3, 3)), s), list(s, anyOf(4, put(3, 3))))
	}
	for who := 1; who <= 8; who++ {
		all = append(all, list(anyOf(who, put(3, 3)), anyOf(who, put(3, 3))), list(anyOf(who, put(3, 3)), otherOf(who, put(3, 4))))
	}
	for place := range 7 {
		turned := everybody()
		turned[place], turned[place+1] = turned[place+1], turned[place]
		all = append(all, turned)
	}
	back := everybody()
	slices.Reverse(back)
	return append(all, back, append(everybody(), anyOf(9, put(3, 3))), append(list(anyOf(0, put(3, 3))), everybody()...), make([]sleep.Sleeper, 9), make([]sleep.Sleeper, 1<<16+1))
}

// brief keeps what is long out of the tests' messages.
func brief(l []sleep.Sleeper) []sleep.Sleeper {
	l = slices.Clone(l[:min(len(l), 9)])
	for place, s := range l {
		l[place].Watch = s.Watch[:min(len(s.Watch), 26)]
		l[place].Term = s.Term[:min(len(s.Term), 14)]
	}
	return l
}

func briefHeap(h []api.Cell) []api.Cell { return h[:min(len(h), 66)] }

func wantMay(t *testing.T, s sleep.Sleeper, h []api.Cell, want bool) {
	t.Helper()
	if got := May(s, h); got != want {
		t.Errorf("May of %v by %v: %v", brief(list(s)), briefHeap(h), got)
	}
}

// wantWoken asks for what Woken answers, and for Wake, that answers the same ones, and
// who is left.
func wantWoken(t *testing.T, l []sleep.Sleeper, h []api.Cell, w []api.Write, want ...int) {
	t.Helper()
	if got := Woken(l, h, w...); !slices.Equal(got, want) {
		t.Errorf("Woken of %v by %v, behind %v: %v and not %v", brief(l), briefHeap(h), w, got, want)
	}
	rest, whos := Wake(l, h, w...)
	left := l
	if len(want) > 0 {
		left = without(l, want...)
	}
	if !slices.Equal(whos, want) || !sameList(rest, left) {
		t.Errorf("Wake of %v by %v, behind %v: %v, %v and not %v, %v", brief(l), briefHeap(h), w, brief(rest), whos, brief(left), want)
	}
}

// wantLie asks for who lies behind it: with an error just who lay ahead of it.
func wantLie(t *testing.T, l []sleep.Sleeper, s sleep.Sleeper, h []api.Cell, wantE api.Errno) {
	t.Helper()
	want := l
	if wantE == api.OK {
		place, _ := slices.BinarySearchFunc(l, s, func(a, b sleep.Sleeper) int { return a.Who - b.Who })
		want = slices.Insert(slices.Clone(l), place, s)
	}
	if got, e := Lie(l, s, h); e != wantE || !sameList(got, want) {
		t.Errorf("Lie of %v among %v by %v: %v, %d and not %v, %d", brief(list(s)), brief(l), briefHeap(h), brief(got), e, brief(want), wantE)
	}
}

// P16.1: of Any always, whatever they watch.
func TestMayOfAny(t *testing.T) {
	for _, h := range append(heaps(), count(1), count(64)) {
		for _, w := range [][]api.Write{nil, {}, writes(put(3, 3)), writes(put(3, 4)), writes(put(0, 0), put(7, 0), put(63, 63)), many(24)} {
			for who := 1; who <= 8; who++ {
				wantMay(t, anyOf(who, w...), h, true)
				wantMay(t, until(end, anyOf(who, w...)), h, true)
			}
		}
	}
}

// P16.1: of Other, if a cell is not live, or has another value.
func TestMayOfOther(t *testing.T) {
	h := cells(live(5), live(0), free, live(least), live(greatest))
	for _, c := range []struct {
		watch []api.Write
		want  bool
	}{
		{nil, false}, {writes(), false},
		{writes(put(0, 5)), false}, {writes(put(0, 6)), true}, {writes(put(0, 4)), true}, {writes(put(0, -5)), true}, {writes(put(0, 0)), true}, {writes(put(0, 1)), true},
		{writes(put(1, 0)), false}, {writes(put(1, 1)), true}, {writes(put(1, -1)), true}, {writes(put(1, least)), true},
		{writes(put(3, least)), false}, {writes(put(3, greatest)), true}, {writes(put(3, 0)), true}, {writes(put(4, greatest)), false}, {writes(put(4, least)), true}, {writes(put(4, -1)), true},
		// A cell that is free, or not there, has no value, not even 0.
		{writes(put(2, 0)), true}, {writes(put(2, 5)), true}, {writes(put(5, 0)), true}, {writes(put(5, 5)), true}, {writes(put(63, 0)), true}, {writes(put(63, greatest)), true},
		{writes(put(0, 5), put(1, 0)), false}, {writes(put(0, 5), put(1, 0), put(3, least), put(4, greatest)), false},
		{writes(put(0, 0), put(1, 5)), true}, {writes(put(0, 6), put(1, 0)), true}, {writes(put(0, 5), put(1, 1)), true}, {writes(put(0, 6), put(1, 1)), true},
		{writes(put(0, 5), put(2, 0)), true}, {writes(put(2, 0), put(4, greatest)), true}, {writes(put(0, 5), put(1, 0), put(2, 0), put(3, least), put(4, greatest)), true},
		{writes(put(0, 5), put(5, 0)), true}, {writes(put(1, 0), put(63, 0)), true}, {writes(put(0, 5), put(1, 0), put(4, greatest), put(5, greatest)), true},
	} {
		for who := 1; who <= 8; who++ {
			wantMay(t, otherOf(who, c.watch...), h, c.want)
			wantMay(t, until(end, otherOf(who, c.watch...)), h, c.want)
		}
	}
}

// P16.1: each of 1 to 24 cells, the first one and the last one too, makes them go on, if
// it is another one, free, or not there; and no cell that they don't watch does.
func TestMayLooksAtEachCell(t *testing.T) {
	for n := range 25 {
		s, h := otherOf(7, many(n)...), count(64)
		wantMay(t, s, h, false)
		for number := range 64 {
			watched := slices.Contains(s.Watch, put(number, number))
			wantMay(t, s, with(h, number, live(number+1)), watched)
			wantMay(t, s, with(h, number, live(number-turn/2)), watched)
			wantMay(t, s, with(h, number, free), watched)
		}
		for length := 1; length <= 64; length++ {
			wantMay(t, s, h[:length], n > 0 && s.Watch[n-1].Cell >= length)
		}
	}
}

// P16.1: of Holds, if its term is told without an error, and is not 0.
func TestMayOfHolds(t *testing.T) {
	h := cells(live(5), live(0), free, live(least), live(greatest), live(1))
	for _, c := range []struct {
		term []term.Op
		want bool
	}{
		{ops(num(0)), false}, {ops(num(1)), true}, {ops(num(2)), true}, {ops(num(-1)), true}, {ops(num(least)), true}, {ops(num(greatest)), true}, {ops(num(256)), true}, {ops(num(1 << 30)), true},
		{ops(cell(0)), true}, {ops(cell(1)), false}, {ops(cell(3)), true}, {ops(cell(4)), true}, {ops(cell(5)), true}, {ops(cell(0), op(term.Not)), false}, {ops(cell(1), op(term.Not)), true},
		{ops(cell(2)), false}, {ops(cell(6)), false}, {ops(cell(63)), false},
		// An error is one, whatever the rest of the term tells.
		{ops(cell(2), op(term.Not)), false}, {ops(cell(6), op(term.Not)), false}, {ops(cell(63), op(term.Not)), false}, {ops(cell(0), cell(2), op(term.Either)), false}, {ops(cell(2), cell(0), op(term.Either)), false},
		{ops(num(1), cell(6), op(term.Either)), false}, {ops(num(1), cell(2), num(0), op(term.Times), op(term.Plus)), false}, {ops(cell(2), cell(2), op(term.Equal)), false}, {ops(cell(6), num(0), op(term.Equal)), false},
		{ops(cell(0), num(5), op(term.Equal)), true}, {ops(cell(0), num(4), op(term.Equal)), false}, {ops(num(4), cell(0), op(term.Below)), true}, {ops(cell(0), num(4), op(term.Below)), false},
		{ops(cell(0), cell(1), op(term.Both)), false}, {ops(cell(0), cell(5), op(term.Both)), true}, {ops(cell(0), cell(1), op(term.Either)), true}, {ops(cell(1), cell(1), op(term.Either)), false},
		{ops(cell(0), num(-5), op(term.Plus)), false}, {ops(cell(0), num(5), op(term.Less)), false}, {ops(cell(0), cell(1), op(term.Times)), false}, {ops(cell(5), num(2), op(term.Less)), true},
		// What goes round to 0 is 0.
		{ops(num(1<<16), num(1<<16), op(term.Times)), false}, {ops(cell(3), cell(3), op(term.Plus)), false}, {ops(cell(4), num(1), op(term.Plus), cell(3), op(term.Less)), false}, {ops(cell(4), num(1), op(term.Plus), cell(3), op(term.Equal)), true},
		{ops(cell(0), cell(1), op(term.Plus), cell(3), op(term.Plus), cell(4), op(term.Plus), cell(5), op(term.Plus), num(5), op(term.Less)), false},
		{ops(cell(0), cell(1), op(term.Plus), cell(3), op(term.Plus), cell(4), op(term.Plus), cell(5), op(term.Plus), num(5), op(term.Less), op(term.Not)), true},
	} {
		for who := 1; who <= 8; who++ {
			wantMay(t, holds(who, c.term...), h, c.want)
			wantMay(t, until(end, holds(who, c.term...)), h, c.want)
		}
	}
}

// P16.1: of Holds the values that they watch don't matter.
func TestMayOfHoldsLooksAtNoWatchedValue(t *testing.T) {
	for _, value := range []int{0, 1, 5, 6, -1, least, greatest} {
		wantMay(t, watching(holds(3, cell(0)), put(0, value)), cells(live(5)), true)
		wantMay(t, watching(holds(3, cell(0)), put(0, value)), cells(live(0)), false)
		wantMay(t, watching(holds(3, cell(0), op(term.Not)), put(0, value)), cells(free), false)
	}
}

// P16.1: false, if they alone are none.
func TestMayOfNone(t *testing.T) {
	for _, s := range goesOn() {
		wantMay(t, s, usual(), true)
	}
	for _, s := range wrongSleepers() {
		for _, h := range [][]api.Cell{usual(), count(64), count(1), make([]api.Cell, 64), nil} {
			wantMay(t, s, h, false)
		}
	}
}

// P16.1: false, if there is no heap; nor is anybody woken by it.
func TestOfNoHeap(t *testing.T) {
	for _, h := range wrongHeaps() {
		for _, s := range append(goesOn(), everybody()...) {
			wantMay(t, s, h, false)
		}
		for _, l := range [][]sleep.Sleeper{nil, everybody(), list(goesOn()[0]), list(goesOn()[1]), list(goesOn()[2]), wrongLists()[0], list(anyOf(1, put(3, 3)), sleep.Sleeper{Who: 1})} {
			for _, w := range [][]api.Write{nil, writes(put(3, 4), put(9, 1)), many(64), writes(put(-1, 0))} {
				wantWoken(t, l, h, w)
			}
		}
	}
}

// P16.1: a heap has 1 to 64 cells.
func TestOfEachLength(t *testing.T) {
	for n := range 70 {
		right := 1 <= n && n <= 64
		wantMay(t, anyOf(1), count(n), right)
		wantMay(t, holds(1, num(1)), count(n), right)
		wantMay(t, otherOf(1, put(0, 1)), count(n), right)
		wantE := api.ErrArg
		if right {
			wantE = api.OK
			wantWoken(t, list(anyOf(4, put(0, 0))), count(n), writes(put(0, 0)), 4)
		} else {
			wantWoken(t, list(anyOf(4, put(0, 0))), count(n), writes(put(0, 0)))
		}
		wantLie(t, list(anyOf(4, put(0, 0))), anyOf(5), count(n), wantE)
	}
}

// P16.1: nothing, of what is no list; it is left as it is.
func TestOfNoList(t *testing.T) {
	for _, l := range wrongLists() {
		for _, h := range [][]api.Cell{usual(), make([]api.Cell, 64)} {
			wantWoken(t, l, h, writes(put(3, 4), put(9, 1), put(0, 0), put(63, 0)))
			wantWoken(t, l, h, nil)
		}
	}
}

// P16.1: who watches what is written, and may go on.
func TestWoken(t *testing.T) {
	all := everybody()
	for _, c := range []struct {
		h    []api.Cell
		w    []api.Write
		want []int
	}{
		{usual(), nil, nil}, {usual(), writes(), nil},
		{usual(), writes(put(1, 1)), nil}, {usual(), writes(put(9, 9)), nil}, {usual(), writes(put(2, 2)), nil}, {usual(), writes(put(3, 3)), numbers(1)}, {usual(), writes(put(63, 63), put(0, 0), put(3, 3)), numbers(1)},
		{with(usual(), 3, live(4)), writes(put(3, 4)), numbers(1, 2)}, {with(usual(), 3, live(10)), writes(put(3, 10)), numbers(1, 2, 3)}, {with(usual(), 9, live(1)), writes(put(9, 1)), numbers(2, 3)},
		{with(usual(), 63, live(70)), writes(put(63, 70)), numbers(1, 6, 8)}, {with(usual(), 63, live(64)), writes(put(63, 64)), numbers(1, 8)}, {with(usual(), 0, live(7)), writes(put(0, 7)), numbers(1, 5, 6)}, {with(usual(), 0, free), writes(put(0, 0)), numbers(1, 5)},
		{with(usual(), 61, live(1)), writes(put(61, 1)), numbers(5)}, {with(usual(), 60, live(1)), writes(put(60, 1)), nil},
		// What was written, and not what is written, is told of: the value is no matter.
		{with(usual(), 3, live(10)), writes(put(3, 3)), numbers(1, 2, 3)}, {usual(), writes(put(3, 10)), numbers(1)}, {with(usual(), 3, live(10)), writes(put(3, greatest+1)), numbers(1, 2, 3)}, {with(usual(), 3, live(10)), writes(put(3, math.MinInt)), numbers(1, 2, 3)},
		// Nobody is woken by a change that they are not told of; and who is told of one goes on by another one.
		{with(usual(), 3, live(10)), writes(put(1, 1)), nil}, {with(usual(), 3, live(10)), writes(put(9, 9)), numbers(2, 3)}, {with(usual(), 63, live(7)), writes(put(0, 0)), numbers(1)}, {with(usual(), 61, live(1)), writes(put(0, 0)), numbers(1, 5)},
		// One cell twice, each who once, rising.
		{with(usual(), 3, live(10)), writes(put(3, 1), put(3, 10)), numbers(1, 2, 3)}, {with(with(usual(), 63, live(70)), 9, live(2)), writes(put(63, 70), put(9, 2), put(63, 70), put(9, 2)), numbers(1, 2, 3, 6, 8)}, {make([]api.Cell, 64), many(64), numbers(1, 2, 5, 8)},
		// Cells that are none are watched by nobody.
		{with(usual(), 3, live(10)), writes(put(-1, 0), put(64, 0), put(turn+3, 0), put(math.MinInt, 3), put(math.MaxInt, 3), put(256+3, 0)), nil}, {with(usual(), 3, live(10)), writes(put(64, 0), put(3, 10), put(-1, 0)), numbers(1, 2, 3)},
	} {
		wantWoken(t, all, c.h, c.w, c.want...)
		wantWoken(t, nil, c.h, c.w)
		wantWoken(t, list(), c.h, c.w)
	}
}

// P16.1: of each list, by each heap, behind some writes.
func TestWokenOfEachSet(t *testing.T) {
	behind := [][]api.Write{nil, writes(put(3, 0)), writes(put(9, 9), put(3, 3)), writes(put(63, 0)), writes(put(0, 0), put(0, 5)), writes(put(61, 1)), writes(put(1, 1), put(20, 4), put(-1, 0), put(64, 0)), many(64), many(24)}
	for set := range 256 {
		for _, h := range heaps() {
			for _, w := range behind {
				wantWoken(t, some(set), h, w, wokenAsTold(some(set), h, w)...)
			}
		}
	}
}

// P16.1: each cell, written alone or with another one, wakes who watches it.
func TestWokenByEachCell(t *testing.T) {
	var l []sleep.Sleeper
	for who := 1; who <= 8; who++ {
		l = append(l, []sleep.Sleeper{anyOf(who), otherOf(who)}[who%2])
		for n := who - 1; n < 64; n += 8 + who {
			l[who-1].Watch = append(l[who-1].Watch, put(n, n+1))
		}
	}
	for first := -1; first <= 64; first++ {
		for second := -1; second <= 64; second++ {
			w := writes(put(first, 0), put(second, 0))
			var want []int
			for _, s := range l {
				if slices.ContainsFunc(s.Watch, func(one api.Write) bool { return one.Cell == first || one.Cell == second }) {
					want = append(want, s.Who)
				}
			}
			if got := Woken(l, count(64), w...); !slices.Equal(got, want) {
				t.Fatalf("Woken behind %v: %v and not %v", w, got, want)
			}
		}
		wantWoken(t, l, count(64), writes(put(first, 0)), wokenAsTold(l, count(64), writes(put(first, 0)))...)
	}
}

// P16.1: very many writes are writes too.
func TestWokenByVeryMany(t *testing.T) {
	w := make([]api.Write, 1<<16+1)
	wantWoken(t, everybody(), with(usual(), 0, live(7)), w, 1, 5, 6)
	w[1<<16] = put(63, 3)
	wantWoken(t, everybody(), with(usual(), 63, live(70)), w, 1, 6, 8)
}

// P16.2: who may not go on lies down, wherever their place is.
func TestLieOfEach(t *testing.T) {
	for set := range 256 {
		for place, s := range everybody() {
			wantE := api.OK
			if set&(1<<place) != 0 || s.Who == 7 {
				wantE = api.ErrWait
			}
			wantLie(t, some(set), s, usual(), wantE)
		}
	}
}

// P16.2: of Any always; of Other and of Holds, if they may not go on, by each heap.
func TestLieByEachHeap(t *testing.T) {
	for _, h := range heaps() {
		for set := range 256 {
			for _, s := range append(everybody(), otherOf(2), anyOf(7, many(24)...), otherOf(1, put(7, 0)), holds(5, cell(7), op(term.Not)), holds(6, num(0))) {
				wantLie(t, some(set), s, h, lieAsTold(some(set), s, h))
			}
		}
	}
}

// P16.2
func TestLie(t *testing.T) {
	h := cells(live(5), live(0), free)
	for _, c := range []struct {
		s     sleep.Sleeper
		wantE api.Errno
	}{
		{anyOf(4), api.OK}, {anyOf(4, put(0, 5)), api.OK}, {anyOf(4, put(0, 6)), api.OK}, {anyOf(4, put(2, 0)), api.OK}, {anyOf(4, put(3, 0)), api.OK}, {anyOf(4, put(63, 0)), api.OK}, {until(end, anyOf(4, many(24)...)), api.OK},
		{otherOf(4), api.OK}, {otherOf(4, put(0, 5)), api.OK}, {otherOf(4, put(0, 5), put(1, 0)), api.OK}, {until(end, otherOf(4, put(0, 5))), api.OK},
		{otherOf(4, put(0, 6)), api.ErrWait}, {otherOf(4, put(0, 5), put(1, 1)), api.ErrWait}, {otherOf(4, put(2, 0)), api.ErrWait}, {otherOf(4, put(3, 0)), api.ErrWait}, {otherOf(4, put(0, 5), put(63, 0)), api.ErrWait}, {until(9, otherOf(4, many(24)...)), api.ErrWait},
		{holds(4, num(0)), api.OK}, {holds(4, cell(1)), api.OK}, {holds(4, cell(2)), api.OK}, {holds(4, cell(2), op(term.Not)), api.OK}, {holds(4, cell(3)), api.OK}, {holds(4, cell(63), op(term.Not)), api.OK}, {until(end, holds(4, cell(0), op(term.Not))), api.OK},
		{holds(4, num(1)), api.ErrWait}, {holds(4, num(-3)), api.ErrWait}, {holds(4, num(least)), api.ErrWait}, {holds(4, cell(0)), api.ErrWait}, {holds(4, cell(1), op(term.Not)), api.ErrWait}, {until(end, holds(4, cell(0), cell(1), op(term.Either))), api.ErrWait},
	} {
		for who := 1; who <= 8; who++ {
			wantLie(t, nil, as(who, c.s), h, c.wantE)
			wantLie(t, list(), as(who, c.s), h, c.wantE)
		}
		wantLie(t, list(anyOf(1), otherOf(8, put(0, 6))), c.s, h, c.wantE)
	}
}

// P16.2: who lies among them is no matter, nor whether those may go on.
func TestLieAmongWhoMayGoOn(t *testing.T) {
	l := list(anyOf(1, put(0, 5)), otherOf(2, put(3, 4)), holds(8, num(1)))
	wantLie(t, l, otherOf(5, put(3, 3)), usual(), api.OK)
	wantLie(t, l, otherOf(5, put(3, 4)), usual(), api.ErrWait)
	wantLie(t, l, holds(5, num(1)), usual(), api.ErrWait)
	wantLie(t, l, anyOf(5, put(3, 4)), usual(), api.OK)
}

// P16.2: ErrArg, if there is no heap, ahead of all other errors.
func TestLieByNoHeap(t *testing.T) {
	for _, h := range wrongHeaps() {
		for _, l := range [][]sleep.Sleeper{nil, list(), everybody(), some(0x73), wrongLists()[0], list(anyOf(3), anyOf(2))} {
			for _, s := range append(goesOn(), anyOf(2), otherOf(4), holds(8, num(0)), sleep.Sleeper{}, otherOf(9, put(3, 4))) {
				wantLie(t, l, s, h, api.ErrArg)
			}
		}
	}
}

// P16.2: ErrArg, of what is no list, even if they may go on.
func TestLieAmongNoList(t *testing.T) {
	for _, l := range wrongLists() {
		for _, s := range list(anyOf(2), otherOf(5, put(3, 4)), otherOf(5, put(3, 3)), holds(7, num(1)), sleep.Sleeper{}) {
			wantLie(t, l, s, usual(), api.ErrArg)
		}
	}
}

// P16.2: ErrArg, of who is none, even if they sleep.
func TestLieOfNone(t *testing.T) {
	for _, s := range wrongSleepers() {
		for _, l := range [][]sleep.Sleeper{nil, everybody(), some(0xfb), list(anyOf(8))} {
			wantLie(t, l, s, usual(), api.ErrArg)
		}
	}
}

// P16.2: ErrWait, of who sleeps, whatever else they are.
func TestLieOfWhoSleeps(t *testing.T) {
	for who := 1; who <= 8; who++ {
		for _, s := range append(goesOn(), anyOf(3), otherOf(3), otherOf(3, put(3, 3)), holds(3, num(0)), holds(3, cell(7)), until(end, anyOf(3, many(24)...))) {
			wantLie(t, everybody(), as(who, s), usual(), api.ErrWait)
			wantLie(t, list(anyOf(who)), as(who, s), usual(), api.ErrWait)
		}
	}
}

// P16.3: the chapter's example.
func TestWrittenTheSameAgain(t *testing.T) {
	h := cells(live(5), live(9))
	l, e := Lie(nil, otherOf(2, put(0, 5)), h)
	if e != api.OK {
		t.Fatalf("Lie: %d", e)
	}
	h, _ = heap.Put(h, put(0, 5))
	wantWoken(t, l, h, writes(put(0, 5)))
	h, _ = heap.Put(h, put(0, 6), put(0, 5))
	wantWoken(t, l, h, writes(put(0, 6), put(0, 5)))
	h, _ = heap.Put(h, put(0, 6))
	wantWoken(t, l, h, writes(put(0, 6)), 2)
}

// P16.3: one who waits till a cell is not 0 sleeps behind each write of 0, and of what
// nobody watches, and no longer than till it is 4.
func TestTillACellIsNotNought(t *testing.T) {
	h := cells(live(0), live(0))
	l, e := Lie(nil, holds(6, cell(0)), h)
	if e != api.OK {
		t.Fatalf("Lie: %d", e)
	}
	for _, w := range [][]api.Write{writes(put(0, 0)), writes(put(1, 4)), writes(put(0, 4), put(0, 0))} {
		h, _ = heap.Put(h, w...)
		wantWoken(t, l, h, w)
	}
	freed, _ := heap.Free(h, 0)
	wantWoken(t, l, freed, writes(put(0, 0)))
	h, _ = heap.Put(h, put(0, 4))
	wantWoken(t, l, h, writes(put(0, 4)), 6)
}
