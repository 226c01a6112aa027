package order

import (
	"math"
	"slices"
	"testing"

	"handshaker/api"
	"handshaker/attempt"
	"handshaker/code"
	"handshaker/commit"
	"handshaker/model"
)

// crowded are schedules whose lists all have something: of tries that wrote, took a
// part and have more frames than one, of commits at each phase, and of entries.
func crowded(t *testing.T) []Sched {
	t.Helper()
	inner := steps(load(0, 1), store(1, 5), either(5, 1), load(1, 3), either(2, 1), store(3, 6), retry(), set(2, 2), set(3, 3))
	c := append(steps(either(len(inner), 1)), append(inner, retry())...)
	s := begun(t, usual(), 2, 3, c, adds(0, 1), steps(store(2, 4), store(0, 7)), steps(load(0, 1), fail(2)), looks(0), steps(retry()), steps(load(0, 9)), c)
	all := []Sched{s}
	s = picked(t, s, 1, 1, 1, 1, 1, 1, 8, 8, 2, 2, 4, 4, 5, 7, 3)
	for range 6 {
		all = append(all, s)
		s = picked(t, s, 2)
		if s.Threads[1].At == Ended {
			break
		}
	}
	return append(all, s, picked(t, s, 3, 3, 3, 3, 1, 1))
}

// P1, R1: what is handed in stays as it was, behind the ends of its lists too; what is
// answered is memory of its own, beside an error as well; no two lists of it share any.
func TestSchedulesAreOwn(t *testing.T) {
	for _, was := range append(crowded(t), stages(t)...) {
		for who := -1; who <= 9; who++ {
			for _, do := range []call{Pick, Anew, endWith(api.ErrWait), func(s Sched, who int) (Sched, api.Errno) { return Run(s, who, 1, 2, 3), 0 }, func(s Sched, _ int) (Sched, api.Errno) { return Run(s), 0 }} {
				s := roomy(was)
				got, e := do(s, who)
				if packed(s) != packed(was) {
					t.Errorf("%s has become %s", text(was), text(s))
				}
				if e != api.OK && packed(got) != packed(was) {
					t.Errorf("beside %d of %s: %s", e, text(was), text(got))
				}
				wantRoom(t, s)
				wantOwn(t, s, got)
				next, _ := do(got, who)
				wantOwn(t, s, got, next)
			}
		}
	}
}

// P1, R1: so are the heap and the codes that New is handed, even if these are one; and
// the picks of Run.
func TestNewIsOwn(t *testing.T) {
	codes := append(codesOf(adds(0, 1), nil), players()[:4]...)
	same := adds(1, 2)
	codes = append(codes, same, same)
	given := struct {
		H     []api.Cell
		Codes [][]code.Step
	}{usual(), codes}
	for _, records := range []int{2, 17} {
		g := roomy(given)
		g.Codes[6] = g.Codes[7]
		got, e := New(g.H, records, 0, g.Codes...)
		if text(g) != text(given) || (e == api.OK) != (records == 2) {
			t.Errorf("New of %s: %d, and it has become %s", text(given), e, text(g))
		}
		g.Codes[6] = nil
		wantRoom(t, g)
		wantOwn(t, g, got)
	}
	s := begun(t, usual(), 2, 0, adds(0, 1), adds(0, 1))
	l := roomy(numbers(1, 2, 9, 0, 1))
	Run(s, l...)
	wantRoom(t, l)
	if !slices.Equal(l, numbers(1, 2, 9, 0, 1)) {
		t.Errorf("the picks have become %v", l)
	}
}

// P1, R1: so is what those that look at logs are handed, and answer, even if all
// entries have one and the same lists.
func TestLogsAreOwn(t *testing.T) {
	type given struct {
		H     []api.Cell
		Codes [][]code.Step
		Log   []Entry
	}
	h, codes := usual(), players()
	shared := played(1, 4, codes[0], h)
	lists := [][]Entry{nil, log(shared), log(shared, saw(2), shared), log(wrotes(2, put(4, 1)), wrotes(9, put(0, 3))), log(wrotes(7, put(2, 2)), wrotes(3, put(0, 1)), saw(3), wrotes(8, put(1, 1))), log(played(9, 1, nil, h))}
	for _, l := range lists {
		for _, h := range append(wrongHeaps()[:8], h, full(64)) {
			was := given{h, codes, l}
			g := roomy(was)
			order, past := Serial(g.Log), Past(g.H, g.Log)
			after, _ := Play(g.H, g.Codes, g.Log)
			if text(g) != text(was) {
				t.Errorf("%s has become %s", text(was), text(g))
			}
			wantRoom(t, g)
			wantOwn(t, g, order, past, after)
		}
	}
}

// R4: what is answered hangs on what was given alone, whatever was asked for meanwhile.
func TestTheSameAgain(t *testing.T) {
	all := append(crowded(t), stages(t)...)
	for _, s := range all {
		for who := 1; who <= len(s.Threads); who++ {
			for _, do := range []call{Pick, Anew, endWith(api.ErrWait)} {
				want, wantE := do(s, who)
				for _, other := range all[:4] {
					Pick(other, who)
					Anew(other, 1)
					End(other, 2, api.ErrFull)
					New(nil, 3, 4)
				}
				wantCall(t, do, s, who, want, wantE)
			}
		}
	}
}

// strange are schedules that came of no call.
func strange(t *testing.T) []Sched {
	t.Helper()
	all := []Sched{{}, {Threads: make([]Thread, 3)}, {Threads: make([]Thread, 300), Log: make([]Entry, 300)}}
	odd := []int{math.MinInt, -turn, -1, 0, 1, 2, 3, 4, 5, 6, 7, 9, 64, turn, math.MaxInt}
	for _, s := range append(crowded(t)[2:6], stages(t)[3:9]...) {
		for _, n := range odd {
			for who := range s.Threads {
				x := s.Threads[who]
				for _, change := range []func(x *Thread){
					func(x *Thread) { x.At = n }, func(x *Thread) { x.Try.Kind = n }, func(x *Thread) { x.Try.Pc = n }, func(x *Thread) { x.Commit.Phase = n },
					func(x *Thread) { x.Try.Who, x.Commit.Try.Who = n, n }, func(x *Thread) { x.Try.Snap, x.Begun = n, n }, func(x *Thread) { x.Code = steps(code.Step{Do: n, A: n, B: n}) },
					func(x *Thread) { x.Try = attempt.Try{Kind: n}; x.At = n % 3 }, func(x *Thread) { x.Commit = commit.Commit{Try: attempt.Try{Kind: model.Done}}; x.At = n % 3 },
				} {
					y := x
					change(&y)
					all = append(all, s.thread(who+1, y))
				}
			}
			other := s
			other.World.Clock = n
			all = append(all, other)
		}
		other := s
		other.World = commit.World{}
		all = append(all, other, s.thread(1, Thread{}))
	}
	return all
}

// P1: schedules made by hand are not asked for, but no call panics, or changes what it
// was given; what stands beside an error is as it was.
func TestSchedulesByHand(t *testing.T) {
	for _, s := range strange(t) {
		was := packed(s)
		for _, who := range []int{math.MinInt, -1, 0, 1, 2, 3, 8, 9, 300, 301, math.MaxInt} {
			for _, do := range []call{Pick, Anew, endWith(api.ErrWait)} {
				if got, e := do(s, who); e != api.OK && packed(got) != was {
					t.Fatalf("of %s, %d: %s, %d", text(s), who, text(got), e)
				}
			}
		}
		Run(s, 1, 2, 3, 1, 2, 3, 8, 1, 1, 1)
		if packed(s) != was {
			t.Fatalf("it has become %s", text(s))
		}
	}
	// Of a world that is none the error of the layer below is told.
	for _, s := range stages(t)[:7] {
		s.World.Heap = nil
		wantCall(t, Pick, s, 1, s, api.ErrArg)
	}
}
