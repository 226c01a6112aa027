package order

import (
	"math"
	"slices"
	"testing"

	"handshaker/api"
	"handshaker/code"
	"handshaker/model"
	"handshaker/opaque"
	"handshaker/term"
)

func log(l ...Entry) []Entry { return l }

func state(version int, h []api.Cell) opaque.State { return opaque.State{Version: version, Heap: h} }

// wrotes is an entry that wrote something; saw is one that wrote nothing.
func wrotes(version int, l ...api.Write) Entry {
	return Entry{Version: version, Out: model.Out{Kind: model.Done, Writes: l}}
}

func saw(version int) Entry {
	return Entry{Version: version, Out: model.Out{Kind: model.Failed, Seen: numbers(0)}}
}

// serialTold is a log's order, by how many stand ahead of each.
func serialTold(l []Entry) []int {
	order := make([]int, len(l))
	for place, x := range l {
		ahead := 0
		for other, y := range l {
			wroteX, wroteY := len(x.Out.Writes) > 0, len(y.Out.Writes) > 0
			switch {
			case y.Version != x.Version:
				if y.Version < x.Version {
					ahead++
				}
			case wroteY != wroteX:
				if wroteY {
					ahead++
				}
			case other < place:
				ahead++
			}
		}
		order[ahead] = place
	}
	return order
}

func wantSerial(t *testing.T, l []Entry, want ...int) {
	t.Helper()
	was := text(l)
	if got := Serial(l); !slices.Equal(got, want) {
		t.Errorf("Serial of %s: %v, want %v", was, got, want)
	}
	if text(l) != was {
		t.Errorf("%s has become %s", was, text(l))
	}
}

// eachLog goes through every log of up to so many of these entries.
func eachLog(entries []Entry, most int, do func(l []Entry)) {
	var grow func(l []Entry)
	grow = func(l []Entry) {
		do(l)
		for _, x := range entries {
			if len(l) < most {
				grow(append(slices.Clone(l), x))
			}
		}
	}
	grow(nil)
}

// P14.2
func TestSerial(t *testing.T) {
	w, s := put(0, 1), model.Out{Kind: model.Done, Regs: zeros(), Path: numbers(1), Seen: numbers(3)}
	wantSerial(t, nil)
	wantSerial(t, log())
	wantSerial(t, log(saw(7)), 0)
	wantSerial(t, log(saw(3), wrotes(2, w), saw(2), wrotes(2, w)), 1, 3, 2, 0)
	wantSerial(t, log(wrotes(1, w), wrotes(2, w), wrotes(3, w)), 0, 1, 2)
	wantSerial(t, log(wrotes(3, w), wrotes(2, w), wrotes(1, w)), 2, 1, 0)
	wantSerial(t, log(saw(1), saw(1), saw(1)), 0, 1, 2)
	wantSerial(t, log(saw(2), wrotes(2, w), wrotes(3, w), saw(1)), 3, 1, 0, 2)
	// Nothing but the writes tells who wrote something, and their values don't matter.
	wantSerial(t, log(Entry{Version: 5, Out: s}, Entry{Version: 5, Who: 8, Out: model.Out{Writes: writes(put(0, 0))}}, Entry{Version: 5, Out: model.Out{Kind: model.Done, Writes: writes()}}), 1, 0, 2)
	wantSerial(t, log(wrotes(5, w), wrotes(5, w, w, w), wrotes(5, put(3, -1))), 0, 1, 2)
	// Versions at the ends, and those that are none.
	wantSerial(t, log(saw(math.MaxInt), wrotes(end+1, w), saw(end), saw(0), wrotes(-1, w), saw(turn), saw(math.MinInt)), 6, 4, 3, 2, 1, 5, 0)
	wantSerial(t, log(saw(0), wrotes(math.MaxInt, w), wrotes(math.MinInt, w), saw(math.MinInt), saw(math.MaxInt)), 2, 3, 0, 1, 4)
}

// P14.2: every log of up to six small entries, and longer ones.
func TestSerialOfEachLog(t *testing.T) {
	var small []Entry
	for version := range 3 {
		small = append(small, saw(version), wrotes(version, put(0, version)))
	}
	eachLog(small, 6, func(l []Entry) {
		if got, want := Serial(l), serialTold(l); !slices.Equal(got, want) {
			t.Errorf("Serial of %s: %v, want %v", text(l), got, want)
		}
	})
	pick := picks(14)
	for n := range 60 {
		var l []Entry
		for range 30 * n {
			x := small[pick.below(6)]
			x.Version += pick.below(9)
			l = append(l, x)
		}
		if got, want := Serial(l), serialTold(l); !slices.Equal(got, want) {
			t.Errorf("Serial of %d entries: %v, want %v", len(l), got, want)
		}
	}
}

func wantPast(t *testing.T, h []api.Cell, l []Entry, want ...opaque.State) {
	t.Helper()
	wasH, wasL := text(h), text(l)
	got := Past(h, l)
	if text(got) != text(want) {
		t.Errorf("Past of %s and %s: %v, want %v", wasH, wasL, got, want)
	}
	if len(got) > 0 && !opaque.Right(got) {
		t.Errorf("Past of %s and %s is none: %v", wasH, wasL, got)
	}
	if text(h) != wasH || text(l) != wasL {
		t.Errorf("%s, %s have become %s, %s", wasH, wasL, text(h), text(l))
	}
}

// P14.2: in the log's order, of each that wrote something, as of its Version.
func TestPast(t *testing.T) {
	h := append(live(1, 2), dead)
	with := func(a, b int) []api.Cell { return append(live(a, b), dead) }
	first := state(0, h)
	wantPast(t, h, nil, first)
	wantPast(t, h, log(), first)
	wantPast(t, h, log(saw(0), saw(7), saw(0)), first)
	wantPast(t, h, log(wrotes(1, put(0, 5))), first, state(1, with(5, 2)))
	wantPast(t, h, log(wrotes(end, put(1, least), put(0, greatest))), first, state(end, with(greatest, least)))
	wantPast(t, h, log(wrotes(4, put(0, 5)), saw(9), wrotes(6, put(1, 7)), saw(4), wrotes(9, put(0, 1), put(1, 1), put(0, 3))),
		first, state(4, with(5, 2)), state(6, with(5, 7)), state(9, with(3, 1)))
	wantPast(t, h, log(wrotes(9, put(0, 1), put(1, 1)), wrotes(6, put(1, 7)), saw(1), wrotes(4, put(0, 5))),
		first, state(4, with(5, 2)), state(6, with(5, 7)), state(9, with(1, 1)))
	// What was there already is written all the same.
	wantPast(t, h, log(wrotes(2, put(0, 1)), wrotes(3, put(1, 2))), first, state(2, h), state(3, h))
	// How it ended, and who it was, does not matter.
	odd := wrotes(2, put(0, 8))
	odd.Who, odd.Out.Kind = -1, 77
	wantPast(t, h, log(odd), first, state(2, with(8, 2)))
}

// P14.2: as far as there is no error: what stands behind one is not told, even if it
// could be; what stands ahead of it is.
func TestPastWithAnError(t *testing.T) {
	h := append(live(1, 2), dead)
	with := func(a, b int) []api.Cell { return append(live(a, b), dead) }
	first, next := state(0, h), state(3, with(5, 2))
	right, behind := wrotes(3, put(0, 5)), wrotes(8, put(1, 7))
	for _, wrong := range []Entry{
		wrotes(5, put(2, 0)), wrotes(5, put(3, 0)), wrotes(5, put(64, 1)), wrotes(5, put(-1, 0)), wrotes(5, put(0, 6), put(2, 1)), wrotes(5, put(2, 1), put(0, 6)),
		wrotes(5, put(0, greatest+1)), wrotes(5, put(0, least-1)), wrotes(5, put(0, turn)), wrotes(5, put(0, 6), put(1, math.MaxInt)), wrotes(5, put(math.MaxInt, 1)),
		wrotes(3, put(0, 6)), wrotes(3, put(1, 6)),
	} {
		wantPast(t, h, log(right, wrong), first, next)
		wantPast(t, h, log(right, wrong, behind), first, next)
		wantPast(t, h, log(behind, right, wrong), first, next)
		wantPast(t, h, log(right, wrong, behind, saw(9)), first, next)
		if wrong.Version == 5 {
			wantPast(t, h, log(wrong, behind, right), first, next)
			wantPast(t, h, log(wrong), first)
			wantPast(t, h, log(wrong, behind), first)
		}
	}
	// Versions that are not above the first one's come ahead of all.
	for _, version := range []int{0, -1, -end, math.MinInt} {
		wantPast(t, h, log(wrotes(version, put(0, 6))), first)
		wantPast(t, h, log(right, wrotes(version, put(0, 6)), behind), first)
		wantPast(t, h, log(right, saw(version)), first, next)
	}
	for _, version := range []int{end + 1, turn, turn + 5, math.MaxInt} {
		wantPast(t, h, log(wrotes(version, put(0, 6)), right), first, next)
		wantPast(t, h, log(saw(version), right), first, next)
	}
}

// P14.2: of what is no heap there is nothing, whatever the log.
func TestPastOfHeaps(t *testing.T) {
	for _, h := range wrongHeaps() {
		wantPast(t, h, nil)
		wantPast(t, h, log(saw(1)))
		wantPast(t, h, log(wrotes(1, put(0, 5))))
	}
	for _, h := range rightHeaps() {
		wantPast(t, h, nil, state(0, h))
		last := len(h) - 1
		if !h[last].Live {
			wantPast(t, h, log(wrotes(4, put(last, 5))), state(0, h))
			continue
		}
		after := slices.Clone(h)
		after[last].Value = 5
		wantPast(t, h, log(wrotes(4, put(last, 5))), state(0, h), state(4, after))
		wantPast(t, h, log(wrotes(4, put(last+1, 5))), state(0, h))
	}
}

// pastTold is that of all entries, with the whole past as it is so far at each Next.
func pastTold(h []api.Cell, l []Entry) []opaque.State {
	p, e := opaque.Begin(0, h)
	for _, place := range serialTold(l) {
		if x := l[place]; e == api.OK && len(x.Out.Writes) > 0 {
			p, e = opaque.Next(p, x.Version, x.Out.Writes...)
		}
	}
	return p
}

// P14.2: every log of up to four small entries, and longer ones.
func TestPastOfEachLog(t *testing.T) {
	h := append(live(1, 2), dead)
	small := log(saw(1), saw(2), wrotes(0, put(0, 3)), wrotes(1, put(0, 4)), wrotes(1, put(1, 5)), wrotes(2, put(2, 1)), wrotes(2, put(1, 6), put(0, 7)), wrotes(3, put(0, turn)), wrotes(4, put(0, 8)), wrotes(5, put(1, 9)))
	eachLog(small, 4, func(l []Entry) {
		if got, want := Past(h, l), pastTold(h, l); text(got) != text(want) {
			t.Errorf("Past of %s: %v, want %v", text(l), got, want)
		}
	})
	var l []Entry
	want := []opaque.State{state(0, full(64))}
	for n := 1; n <= 2000; n++ {
		cell := n * 5 % 64
		l = append(l, wrotes(3*n, put(cell, n)), saw(n))
		after := slices.Clone(want[n-1].Heap)
		after[cell].Value = n
		want = append(want, state(3*n, after))
	}
	slices.Reverse(l)
	wantPast(t, full(64), l, want...)
}

// played is the entry of a code that is run on a heap by who, at that version.
func played(who, version int, c []code.Step, h []api.Cell) Entry {
	out, _, _ := model.Run(c, h)
	return Entry{Who: who, Version: version, Out: out}
}

func wantPlay(t *testing.T, h []api.Cell, codes [][]code.Step, l []Entry, want []api.Cell, wantOk bool) {
	t.Helper()
	was := text([]any{h, codes, l})
	if got, ok := Play(h, codes, l); !slices.Equal(got, want) || ok != wantOk {
		t.Errorf("Play of %s: %v, %v, want %v, %v", was, got, ok, want, wantOk)
	}
	if now := text([]any{h, codes, l}); now != was {
		t.Errorf("%s has become %s", was, now)
	}
}

// players are codes that end in each way, and what they make of usual.
func players() [][]code.Step {
	double := code.Step{Do: code.Store, A: 0, Term: []term.Op{{Kind: term.Reg}, {Kind: term.Reg}, {Kind: term.Plus}}}
	return codesOf(adds(0, 1), steps(load(0, 0), double), looks(0), nil, steps(load(3, 1), retry()), steps(load(3, 1), store(2, 9), fail(7)), steps(load(3, 1), store(4, 9)), steps(either(2, 2), store(1, 5), retry(), load(6, 0), plus(2, 6, 0)))
}

// P14.2: each entry runs on the heap that the one ahead has left.
func TestPlay(t *testing.T) {
	h, codes := usual(), players()
	after := func(a, c int) []api.Cell { return append(live(a, 20, c, 40), dead) }
	wantPlay(t, h, codes, nil, h, true)
	wantPlay(t, h, nil, nil, h, true)
	add, double := played(1, 1, codes[0], h), played(2, 2, codes[1], after(11, 30))
	look, both := played(3, 2, codes[2], after(22, 30)), played(8, 5, codes[7], after(22, 30))
	wantPlay(t, h, codes, log(add), after(11, 30), true)
	wantPlay(t, h, codes, log(add, double, look, both), after(22, 22), true)
	wantPlay(t, h, codes, log(both, look, double, add), after(22, 22), true)
	wantPlay(t, h, codes, log(look, add, both, double), after(22, 22), true)
	// In another order they end otherwise: what comes of that is told all the same.
	add.Version, double.Version = double.Version, add.Version
	wantPlay(t, h, codes, log(add, double), after(21, 30), false)
	wantPlay(t, h, codes, log(double, add), after(21, 30), false)
	// Those that do nothing, each as it ends, at any place.
	for who := 3; who <= 7; who++ {
		x := played(who, 4, codes[who-1], h)
		wantPlay(t, h, codes, log(x), h, true)
		wantPlay(t, h, codes, log(x, x, x), h, true)
		wantPlay(t, h, codes[:who], log(x), h, true)
		y := played(who, 1, codes[who-1], after(11, 30))
		wantPlay(t, h, codes, log(y, played(1, 1, codes[0], h)), after(11, 30), true)
	}
	// More codes, and more entries, than there are threads.
	var l []Entry
	for n := range 40 {
		l = append(l, played(12, n+1, adds(0, 1), after(10+n, 30)))
	}
	wantPlay(t, h, slices.Repeat(codesOf(adds(0, 1)), 12), l, after(50, 30), true)
}

// P14.2: just as Out says: nothing of it may be otherwise.
func TestPlayLooksAtAllOfOut(t *testing.T) {
	h, codes := usual(), players()
	wrong := []func(o *model.Out){
		func(o *model.Out) { o.Kind++ }, func(o *model.Out) { o.Kind-- }, func(o *model.Out) { o.Kind = 0 }, func(o *model.Out) { o.Kind += turn },
		func(o *model.Out) { o.Why++ }, func(o *model.Out) { o.Why-- }, func(o *model.Out) { o.Why += 256 },
		func(o *model.Out) { o.Regs = append(o.Regs, 0) }, func(o *model.Out) { o.Path = append(o.Path, 1) }, func(o *model.Out) { o.Path = append(numbers(2), o.Path...) },
		func(o *model.Out) { o.Seen = append(o.Seen, 4) }, func(o *model.Out) { o.Seen = append(numbers(0), o.Seen...) },
		func(o *model.Out) { o.Writes = append(o.Writes, put(4, 1)) },
		func(o *model.Out) { o.Writes = append(writes(put(3, 40)), o.Writes...) },
	}
	for who, c := range codes {
		x := played(who+1, 6, c, h)
		_, after, _ := model.Run(c, h)
		wantPlay(t, h, codes, log(x), after, true)
		all := slices.Clone(wrong)
		for place := range x.Out.Regs {
			all = append(all, func(o *model.Out) { o.Regs[place]++ })
		}
		if len(x.Out.Regs) > 0 {
			all = append(all, func(o *model.Out) { o.Regs = o.Regs[:7] }, func(o *model.Out) { o.Regs = nil })
		}
		if len(x.Out.Path) > 0 {
			all = append(all, func(o *model.Out) { o.Path[0] = 3 - o.Path[0] }, func(o *model.Out) { o.Path = nil })
		}
		if len(x.Out.Seen) > 0 {
			all = append(all, func(o *model.Out) { o.Seen[0]++ }, func(o *model.Out) { o.Seen = nil })
		}
		if len(x.Out.Writes) > 0 {
			all = append(all, func(o *model.Out) { o.Writes[0].Cell++ }, func(o *model.Out) { o.Writes[0].Value++ }, func(o *model.Out) { o.Writes = nil })
		}
		for _, spoil := range all {
			y := played(who+1, 6, c, h)
			spoil(&y.Out)
			wantPlay(t, h, codes, log(y), after, false)
			// One that ends otherwise, ahead of those that end just so, and behind them.
			wantPlay(t, h, codes, log(y, played(4, 9, nil, after)), after, false)
			wantPlay(t, h, codes, log(played(4, 1, nil, h), y), after, false)
		}
		// A list that is nil and one that is empty are the same.
		for _, list := range []*[]int{&x.Out.Regs, &x.Out.Path, &x.Out.Seen} {
			if len(*list) == 0 {
				*list = numbers()
			}
		}
		x.Out.Writes = append(writes(), x.Out.Writes...)
		wantPlay(t, h, codes, log(x), after, true)
	}
}

// P14.2, R2: of no code, wherever the entry stands: the heap as it was at first, and
// false, even if all others end just so, or one otherwise.
func TestPlayOfNoCode(t *testing.T) {
	h, codes := usual(), players()
	right, otherwise := played(1, 3, codes[0], h), played(1, 2, codes[0], h)
	otherwise.Out.Why = 5
	for _, who := range []int{0, -1, 9, 10, -8, turn, turn + 1, -turn + 1, 257, math.MinInt, math.MinInt + 1, math.MaxInt} {
		for version := 1; version <= 4; version++ {
			x := played(who, version, nil, h)
			wantPlay(t, h, codes, log(x), h, false)
			wantPlay(t, h, codes, log(right, x), h, false)
			wantPlay(t, h, codes, log(x, right), h, false)
			wantPlay(t, h, codes, log(otherwise, x), h, false)
			wantPlay(t, h, codes, log(x, otherwise, right), h, false)
		}
	}
	for who := 1; who <= 8; who++ {
		x := played(who, 5, codes[who-1], h)
		wantPlay(t, h, codes[:who-1], log(x), h, false)
		wantPlay(t, h, nil, log(x), h, false)
	}
}

// P14.2, R2: with an error of a code or of the heap, likewise; of what no entry is of
// nobody asks.
func TestPlayWithAnError(t *testing.T) {
	h := usual()
	for _, wrong := range wrongCodes() {
		codes := codesOf(adds(0, 1), wrong, nil)
		right := played(1, 3, codes[0], h)
		wantPlay(t, h, codes, log(right), append(live(11, 20, 30, 40), dead), true)
		for version := 1; version <= 4; version++ {
			for _, out := range []model.Out{{}, right.Out} {
				x := Entry{Who: 2, Version: version, Out: out}
				wantPlay(t, h, codes, log(x), h, false)
				wantPlay(t, h, codes, log(right, x), h, false)
				wantPlay(t, h, codes, log(x, right), h, false)
				wantPlay(t, h, codes, log(right, played(3, 1, nil, h), x, right), h, false)
			}
		}
	}
	for _, h := range wrongHeaps() {
		for _, out := range []model.Out{{}, nothing()} {
			wantPlay(t, h, codesOf(nil), log(Entry{Who: 1, Out: out}), h, false)
			wantPlay(t, h, codesOf(nil), log(Entry{Who: 2, Out: out}), h, false)
		}
		// Without an entry there is none that has an error.
		wantPlay(t, h, codesOf(nil), nil, h, true)
	}
}

// playTold is what Play answers, each entry taken from what is left of the log.
func playTold(h []api.Cell, codes [][]code.Step, l []Entry) ([]api.Cell, bool) {
	now, ok := h, true
	for _, place := range serialTold(l) {
		x := l[place]
		if x.Who <= 0 || x.Who >= len(codes)+1 {
			return h, false
		}
		out, after, e := model.Run(codes[x.Who-1], now)
		if e != api.OK {
			return h, false
		}
		ok = ok && text(out) == text(x.Out)
		now = after
	}
	return now, ok
}

// P14.2: every log of up to four small entries.
func TestPlayOfEachLog(t *testing.T) {
	h := live(1, 2)
	codes := codesOf(adds(0, 1), steps(load(0, 0), plus(1, 0, 0)), looks(1), long(25))
	var small []Entry
	for version := 1; version <= 2; version++ {
		small = append(small, played(1, version, codes[0], h), played(1, version, codes[0], live(2, 2)), played(2, version, codes[1], h), played(2, version, codes[1], live(2, 2)))
	}
	small = append(small, played(3, 2, codes[2], h), played(3, 2, codes[2], live(1, 1)), Entry{Who: 4, Version: 1}, Entry{Who: 5, Version: 1})
	right := 0
	eachLog(small, 4, func(l []Entry) {
		want, wantOk := playTold(h, codes, l)
		if got, ok := Play(h, codes, l); !slices.Equal(got, want) || ok != wantOk {
			t.Errorf("Play of %s: %v, %v, want %v, %v", text(l), got, ok, want, wantOk)
		}
		if wantOk {
			right++
		}
	})
	if right < 20 {
		t.Errorf("%d logs are runs", right)
	}
}
