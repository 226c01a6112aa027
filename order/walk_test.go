package order

import (
	"slices"
	"testing"

	"handshaker/api"
	"handshaker/attempt"
	"handshaker/code"
	"handshaker/commit"
	"handshaker/model"
	"handshaker/opaque"
	"handshaker/term"
)

// picks tell numbers below a bound, always the same ones.
type picks uint64

func (p *picks) below(n int) int {
	*p = *p*6364136223846793005 + 1442695040888963407
	return int(uint64(*p)>>33) % n
}

// moved is what a walk does by a number n: up to 99 a Pick of n; from 100 on an Anew
// of n - 100; from 200 on an End of n - 200, with ErrWait.
func moved(s Sched, n int) (Sched, api.Errno) {
	switch n / 100 {
	case 1:
		return Anew(s, n-100)
	case 2:
		return End(s, n-200, api.ErrWait)
	}
	return Pick(s, n)
}

// told is what comes of such a move, by the chapter's words, with layers 10 to 12 for
// a try's and a commit's steps.
func told(s Sched, n int) (Sched, api.Errno) {
	who := n % 100
	if who < 1 || who > len(s.Threads) || s.Threads[who-1].At == 2 {
		return s, api.ErrNone
	}
	s.Threads = slices.Clone(s.Threads)
	x := &s.Threads[who-1]
	if n > 100 && x.At == 1 {
		return s, api.ErrLock
	}
	if n > 200 {
		x.At, x.Err = 2, 9
		return s, 0
	}
	again := n > 100
	ended, version := false, 0
	if !again && x.At == 0 {
		x.Try, _ = attempt.Step(x.Try, x.Code, s.World.Heap, s.World.Table)
		switch x.Try.Kind {
		case 1:
			x.At = 1
			x.Commit, _ = commit.Begin(x.Try)
			ended, version = x.Commit.Phase == 5, x.Commit.Version
		case 2, 5:
			again = true
		case 3, 4:
			ended, version = true, x.Try.Snap
		}
	} else if !again {
		x.Commit, s.World, _ = commit.Step(x.Commit, s.World)
		ended, version = x.Commit.Phase == 5, x.Commit.Version
		if x.Commit.Phase == 6 && x.Commit.Err == 6 {
			x.At, x.Err = 2, 6
		} else {
			again = x.Commit.Phase == 6
		}
	}
	if ended {
		x.At = 2
		s.Log = append(slices.Clone(s.Log), Entry{who, version, attempt.Out(x.Try)})
	}
	if again {
		try, _ := attempt.Begin(x.Code, who, s.World.Clock)
		*x = Thread{Code: x.Code, Try: try, Begun: x.Begun + 1}
	}
	return s, 0
}

// value is what stood in a cell as of a version, by a log's entries: of those whose
// version is not above it, the one of the highest version that wrote the cell has told
// it last.
func value(h []api.Cell, l []Entry, cell, version int) int {
	found, highest := h[cell].Value, -1
	for _, x := range l {
		for _, w := range x.Out.Writes {
			if w.Cell == cell && highest < x.Version && x.Version <= version {
				found, highest = w.Value, x.Version
			}
		}
	}
	return found
}

// wantReads holds P14.3 of one try: what it has read was so as of its Snap, by what is
// in the log so far.
func wantReads(t *testing.T, h []api.Cell, s Sched, past []opaque.State, x attempt.Try) {
	t.Helper()
	for _, r := range x.Reads {
		if h[r.Cell].Live && value(h, s.Log, r.Cell, x.Snap) == r.Value && r.Version <= x.Snap {
			continue
		}
		t.Fatalf("as of %d the cell %d was not %d: %s", x.Snap, r.Cell, r.Value, text(s))
	}
	if !opaque.Holds(past, x.Snap, x.Reads) {
		t.Fatalf("as of %d %v were not so: %s", x.Snap, x.Reads, text(s))
	}
}

// wantRun holds P14.3 of a log: it is a run of the model, one behind the other, from
// the heap that there was at first to the one there is; but for what is being put.
func wantRun(t *testing.T, h []api.Cell, codes [][]code.Step, s Sched) {
	t.Helper()
	now, versions := h, map[int]int{}
	for _, place := range serialTold(s.Log) {
		x := s.Log[place]
		out, after, e := model.Run(codes[x.Who-1], now)
		if e != api.OK || !alike(out, x.Out) {
			t.Fatalf("the entry %+v is no run on %v, that ends as %+v, %d: %s", x, now, out, e, text(s))
		}
		now = after
		if len(x.Out.Writes) > 0 {
			versions[x.Version]++
		}
	}
	for version, count := range versions {
		if count > 1 || version > s.World.Clock {
			t.Fatalf("%d entries have the version %d: %s", count, version, text(s))
		}
	}
	if got, ok := Play(h, codes, s.Log); !ok || !slices.Equal(got, now) {
		t.Fatalf("Play of %s: %v, %v, want %v", text(s), got, ok, now)
	}
	now = slices.Clone(now)
	for _, x := range s.Threads {
		if x.At == Commits && x.Commit.Phase == commit.Stamp {
			for _, w := range x.Try.Log.List {
				now[w.Cell].Value = w.Value
			}
		}
	}
	if !slices.Equal(now, s.World.Heap) {
		t.Fatalf("one behind the other: %v: %s", now, text(s))
	}
}

// wantWhole holds what is so of every schedule.
func wantWhole(t *testing.T, h []api.Cell, codes [][]code.Step, s Sched) {
	t.Helper()
	if !commit.Right(s.World) || len(s.Threads) != len(codes) {
		t.Fatalf("no schedule: %s", text(s))
	}
	entries := make([]int, len(codes))
	for _, x := range s.Log {
		entries[x.Who-1]++
	}
	past := Past(h, s.Log)
	for place, x := range s.Threads {
		inLog := x.At == Ended && x.Err == api.OK
		if inLog != (entries[place] == 1) || entries[place] > 1 || x.Begun < 1 {
			t.Fatalf("%d entries of %d: %s", entries[place], place+1, text(s))
		}
		if x.Err != api.OK && x.Err != api.ErrWait && x.Err != api.ErrClock {
			t.Fatalf("the Err of %d: %s", place+1, text(s))
		}
		if x.At == Tries && (x.Try.Kind != attempt.Runs || !sameCommit(x.Commit, commit.Commit{})) {
			t.Fatalf("%d tries: %s", place+1, text(s))
		}
		if x.At == Commits && (x.Try.Kind != model.Done || x.Commit.Phase >= commit.In) {
			t.Fatalf("%d commits: %s", place+1, text(s))
		}
		if x.Try.Who != place+1 || !sameCode(x.Code, codes[place]) || x.Try.Snap > s.World.Clock {
			t.Fatalf("the try of %d: %s", place+1, text(s))
		}
		wantReads(t, h, s, past, x.Try)
	}
	for place, r := range s.World.Table {
		if owner := r.Owner; owner > 0 && (s.Threads[owner-1].At != Commits || s.Threads[owner-1].Commit.Phase == commit.Lock) {
			t.Fatalf("%d holds %d: %s", owner, place, text(s))
		}
	}
	wantRun(t, h, codes, s)
}

// walk goes through every schedule that moves come to, each once, while nobody has
// begun more often than so many times.
type walk struct {
	h     []api.Cell
	codes [][]code.Step
	most  int
	moves []int
	been  map[string]int
	ends  map[string]int
}

func (w *walk) from(t *testing.T, s Sched) {
	t.Helper()
	key := packed(s)
	if w.been[key]++; w.been[key] > 1 {
		return
	}
	wantWhole(t, w.h, w.codes, s)
	ended := 0
	for _, x := range s.Threads {
		if x.Begun > w.most {
			return
		}
		if x.At == Ended {
			ended++
		}
	}
	if ended == len(s.Threads) {
		w.ends[text(s.World.Heap)]++
	}
	for _, n := range w.moves {
		want, wantE := told(s, n)
		got, e := moved(s, n)
		if packed(got) != packed(want) || e != wantE {
			t.Fatalf("the move %d of %s: %s, %d, want %s, %d", n, text(s), text(got), e, text(want), wantE)
		}
		if e == api.OK {
			w.from(t, got)
		}
	}
	if packed(s) != key {
		t.Fatalf("what was given has become %s", text(s))
	}
}

// walked goes through all of them, and answers the heaps in which all have ended.
func walked(t *testing.T, h []api.Cell, records, clock, most int, moves []int, codes ...[]code.Step) (ends map[string]int, count int) {
	t.Helper()
	w := &walk{h: h, codes: codes, most: most, moves: moves, been: map[string]int{}, ends: map[string]int{}}
	w.from(t, begun(t, h, records, clock, codes...))
	return w.ends, len(w.been)
}

// shifts is a code that takes n from one cell, and adds it to another one.
func shifts(from, to, n int) []code.Step {
	return steps(load(0, from), load(1, to), plus(from, 0, -n), plus(to, 1, n))
}

// P14.3: every order of picks of two, while nobody has begun more often than a few
// times: each pair comes to what one behind the other does, in one of the two orders.
func TestEachOrderOfTwo(t *testing.T) {
	h := append(live(3, 5, 8), dead)
	all := codesOf(
		adds(0, 1), adds(2, 4), looks(1), shifts(0, 1, 2), steps(load(2, 1), plus(0, 2, 0)), steps(load(2, 0), plus(1, 2, 1), load(3, 2)),
		steps(store(1, 7), load(4, 1), store(0, 9)), nil, steps(load(0, 0), fail(4)), steps(load(1, 1), store(0, 1), load(1, 3)),
		steps(either(3, 2), load(0, 0), store(0, 1), retry(), load(1, 1), plus(0, 1, 10)),
	)
	for _, a := range all {
		for _, b := range all {
			for records := 1; records <= 2; records++ {
				ends, _ := walked(t, h, records, 0, 3, numbers(1, 2, 3, 0), a, b)
				_, first, _ := model.Run(a, h)
				_, then, _ := model.Run(b, first)
				_, other, _ := model.Run(b, h)
				_, last, _ := model.Run(a, other)
				both := map[string]int{text(then): 1, text(last): 1}
				for heap := range ends {
					if both[heap] == 0 {
						t.Errorf("of %v and %v: %s", a, b, heap)
					}
				}
				for heap := range both {
					if ends[heap] == 0 {
						t.Errorf("of %v and %v never: %s", a, b, heap)
					}
				}
			}
		}
	}
}

// waits can't go on till a cell is not 0, and writes what stood there to another one.
func waits(from, to int) []code.Step {
	return steps(load(0, from), skip(1, []term.Op{{Kind: term.Reg}, {Kind: term.Not}}), retry(), plus(to, 0, 0))
}

// P14.3: likewise with one who can't go on till the other one has come to be, with
// Anew and End at each step, and with the last versions.
func TestEachOrderOfMoves(t *testing.T) {
	moves := numbers(1, 2, 101, 102, 103, 201, 202, 200)
	for _, clock := range []int{0, end - 2, end - 1, end} {
		for _, codes := range [][][]code.Step{
			{waits(0, 1), adds(0, 1)}, {adds(0, 1), adds(0, 1)}, {looks(0), steps(store(0, 4))}, {steps(load(0, 0), retry()), adds(2, 1)}, {shifts(0, 1, 1), shifts(1, 0, 1)},
		} {
			if _, count := walked(t, live(0, 5, 8), 2, clock, 4, moves, codes...); count < 100 {
				t.Errorf("%d schedules of %v at %d", count, codes, clock)
			}
		}
	}
}

// P14.3: every order of picks of three.
func TestEachOrderOfThree(t *testing.T) {
	h := live(3, 5, 8)
	for _, codes := range [][][]code.Step{
		{adds(0, 1), adds(0, 1), adds(0, 1)},
		{shifts(0, 1, 1), steps(load(0, 0), load(1, 1)), shifts(1, 0, 2)},
		{steps(load(0, 0), plus(1, 0, 0)), steps(load(0, 1), plus(2, 0, 0)), steps(load(0, 2), plus(0, 0, 0))},
		{looks(0), steps(store(0, 1), store(1, 2)), steps(load(0, 1), load(1, 0), fail(1))},
	} {
		for records := 1; records <= 3; records++ {
			if _, count := walked(t, h, records, 0, 2, numbers(1, 2, 3), codes...); count < 200 {
				t.Errorf("%d schedules of %v", count, codes)
			}
		}
	}
}

// part is a part of some code, of at most so many steps, no deeper than that.
func part(p *picks, cells, most, deepest int) []code.Step {
	var c []code.Step
	reg := func() []term.Op { return []term.Op{{Kind: term.Reg, N: p.below(3)}} }
	for len(c) < most && p.below(8) > 0 {
		left := most - len(c) - 1
		switch n := p.below(16); {
		case n < 6:
			c = append(c, load(p.below(3), p.below(cells)))
		case n < 7:
			c = append(c, code.Step{Do: code.Set, A: p.below(3), Term: []term.Op{{Kind: term.Reg, N: p.below(3)}, {Kind: term.Const, N: p.below(3) - 1}, {Kind: term.Plus}}})
		case n < 11:
			c = append(c, plus(p.below(cells), p.below(3), p.below(3)))
		case n < 12 && left > 1:
			inner := part(p, cells, min(left, 3), 0)
			if len(inner) > 0 {
				c = append(append(c, skip(len(inner), reg())), inner...)
			}
		case n < 14 && left > 3 && deepest > 0:
			first, second := part(p, cells, left/2, deepest-1), part(p, cells, left/2, deepest-1)
			first = append(first[:min(len(first), left/2-1)], skip(1, reg()), retry())
			if len(second) > 0 && len(first)+len(second) < left && code.Check(first) == api.OK {
				c = append(append(append(c, either(len(first), len(second))), first...), second...)
			}
		case n == 14 && p.below(3) == 0:
			c = append(c, skip(1, reg()), retry())
		case n == 15 && p.below(3) == 0:
			c = append(c, skip(1, reg()), fail(p.below(256)))
		}
	}
	return c
}

// some is a code that is well, of a few steps or of many.
func some(p *picks, cells int) []code.Step {
	for {
		if c := part(p, cells, 2+p.below(20), 3); code.Check(c) == api.OK {
			return c
		}
	}
}

// tally counts what walks have come to.
type tally struct{ kinds, begun, errs [10]int }

// remember has, behind all, the tries of a schedule that have read something.
func remember(all []attempt.Try, s Sched) []attempt.Try {
	for _, x := range s.Threads {
		if last := len(all) - 1; len(x.Try.Reads) > 0 && (last < 0 || !slices.Equal(all[last].Reads, x.Try.Reads)) {
			all = append(all, x.Try)
		}
	}
	return all
}

// stroll is a schedule of some codes, moved up to so many times.
func stroll(t *testing.T, p *picks, count *tally, most int) {
	t.Helper()
	h := live(1, 2, 3, 4, 5, 6)[:1+p.below(6)]
	if p.below(4) == 0 {
		h[p.below(len(h))] = dead
	}
	var codes [][]code.Step
	for range 1 + p.below(8) {
		codes = append(codes, some(p, len(h)))
	}
	clock := []int{0, 0, 0, 5, end - 3, end - 1, end}[p.below(7)]
	s := begun(t, h, 1+p.below(5), clock, codes...)
	var tries []attempt.Try
	for range most {
		n := p.below(len(codes) + 1)
		if k := p.below(60); k < 2 {
			n += 100
		} else if k == 2 && p.below(4) == 0 {
			n += 200
		}
		want, wantE := told(s, n)
		got, e := moved(s, n)
		if packed(got) != packed(want) || e != wantE {
			t.Fatalf("the move %d of %s: %s, %d, want %s, %d", n, text(s), text(got), e, text(want), wantE)
		}
		s = got
		if e == api.OK {
			tries = remember(tries, s)
			wantWhole(t, h, codes, s)
		}
		count.errs[e]++
	}
	// What they have read was so, whatever has been written since.
	past := Past(h, s.Log)
	for _, x := range tries {
		wantReads(t, h, s, past, x)
	}
	for _, x := range s.Log {
		count.kinds[x.Out.Kind]++
	}
	for _, x := range s.Threads {
		count.begun[min(x.Begun, 9)]++
		if x.At == Ended {
			count.errs[x.Err]++
		}
	}
}

// P14.3: up to eight of some codes, that are picked, begun anew and ended by another's
// word in some order.
func TestSomeOrders(t *testing.T) {
	p := picks(14)
	var count tally
	for n := range 1000 {
		stroll(t, &p, &count, 20+n%200)
	}
	for _, kind := range []int{model.Done, model.Failed, model.Bad} {
		if count.kinds[kind] < 20 {
			t.Errorf("%d have ended as %d: %v", count.kinds[kind], kind, count)
		}
	}
	for _, e := range []api.Errno{api.OK, api.ErrNone, api.ErrLock, api.ErrClock, api.ErrWait} {
		if count.errs[e] < 20 {
			t.Errorf("%d answers, or ends, of %d: %v", count.errs[e], e, count)
		}
	}
	for n := 1; n <= 9; n++ {
		if count.begun[n] < 5 {
			t.Errorf("%d have begun %d times: %v", count.begun[n], n, count)
		}
	}
}

// P14.3: many picks of eight who add to few cells: none of what they add is lost.
func TestNothingIsLost(t *testing.T) {
	p := picks(8)
	for n := range 60 {
		var codes [][]code.Step
		sum := make([]int, 3)
		for who := range 8 {
			c := adds(p.below(3), 1+who)
			if p.below(2) == 0 {
				c = shifts(p.below(2), 2, who)
				sum[c[0].B] -= who
				sum[2] += who
			} else {
				sum[c[0].B] += 1 + who
			}
			codes = append(codes, c)
		}
		s := begun(t, live(0, 0, 0), 1+n%3, n, codes...)
		var order []int
		for range 300 {
			order = append(order, 1+p.below(8))
		}
		for who := 1; who <= 8; who++ {
			order = append(order, slices.Repeat(numbers(who), 20)...)
		}
		for range 8 {
			s = Run(s, order...)
		}
		wantWhole(t, live(0, 0, 0), codes, s)
		if !slices.Equal(s.World.Heap, live(sum...)) || len(s.Log) != 8 {
			t.Fatalf("behind all picks, not %v: %s", sum, text(s))
		}
	}
}
