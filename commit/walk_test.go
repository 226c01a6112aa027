package commit

import (
	"math"
	"slices"
	"testing"

	"handshaker/api"
	"handshaker/attempt"
	"handshaker/code"
	"handshaker/model"
	"handshaker/term"
	"handshaker/writes"
)

// told is what a step comes to, by the chapter's table, without a call of any other
// layer. It is asked of a commit at Lock up to Stamp, and of a world.
func told(c Commit, w World) (Commit, World) {
	c, w = commitCopy(c), worldCopy(w)
	who, l := c.Try.Who, c.Try.Log.List
	record := func(cell int) *api.Record { return &w.Table[cell%len(w.Table)] }
	e := api.OK
	switch c.Phase {
	case Lock:
		for _, x := range l {
			if owner := record(x.Cell).Owner; owner != 0 && owner != who {
				e = api.ErrLock
			}
		}
		for _, x := range l {
			if e == api.OK {
				record(x.Cell).Owner = who
			}
		}
	case Tick:
		if w.Clock == api.MaxClock {
			e = api.ErrClock
		} else {
			w.Clock++
			c.Version = w.Clock
		}
	case Check:
		for _, x := range c.Try.Reads {
			if r := record(x.Cell); r.Version != x.Version || r.Owner != 0 && r.Owner != who {
				e = api.ErrStale
			}
		}
	case Put:
		for _, x := range l {
			if x.Cell >= len(w.Heap) || !w.Heap[x.Cell].Live {
				e = api.ErrNone
			}
		}
		for _, x := range l {
			if e == api.OK {
				w.Heap[x.Cell].Value = x.Value
			}
		}
	case Stamp:
		for _, r := range w.Table {
			if r.Owner == who && r.Version >= c.Version {
				e = api.ErrClock
			}
		}
		for i := range w.Table {
			if e == api.OK && w.Table[i].Owner == who {
				w.Table[i] = held(c.Version, 0)
			}
		}
	}
	if e != api.OK {
		return toldOut(c, w, e)
	}
	c.Phase++
	return c, w
}

func toldOut(c Commit, w World, e api.Errno) (Commit, World) {
	w = worldCopy(w)
	for i := range w.Table {
		if w.Table[i].Owner == c.Try.Who {
			w.Table[i].Owner = 0
		}
	}
	return c.out(e), w
}

func toldAll(c Commit, w World) (Commit, World) {
	for c.Phase < In {
		c, w = told(c, w)
	}
	return c, w
}

func toldDrop(c Commit, w World) (Commit, World) {
	if c.Phase <= Check {
		return toldOut(c, w, api.ErrStale)
	}
	return toldAll(c, w)
}

// picks tell numbers below a bound, always the same ones.
type picks uint64

func (p *picks) below(n int) int {
	*p = *p*6364136223846793005 + 1442695040888963407
	return int(uint64(*p)>>33) % n
}

// worldOf is of few cells and records: some cells are not live, some records are
// held, and the clock is, at times, the last one.
func worldOf(p *picks) World {
	w := World{Heap: full()[:1+p.below(8)], Clock: []int{9, 10, 11, 12, api.MaxClock}[p.below(5)]}
	for cell := range w.Heap {
		w.Heap[cell].Value = p.below(9) - 4
		if p.below(16) == 0 {
			w.Heap[cell] = api.Cell{}
		}
	}
	for range 1 + p.below(5) {
		w.Table = append(w.Table, held(p.below(min(w.Clock+1, 12)), max(0, p.below(9)-5)))
	}
	return w
}

// triedOn is some try of who that is done, as of that world, whose records nobody
// holds then.
func triedOn(t *testing.T, p *picks, who int, w World) attempt.Try {
	t.Helper()
	for i := range w.Table {
		w.Table[i].Owner = 0
	}
	var loads []int
	var stores []api.Write
	for range p.below(4) {
		loads = append(loads, p.below(len(w.Heap)))
	}
	for range p.below(5) {
		stores = append(stores, put(p.below(len(w.Heap)), p.below(9)-4))
	}
	return tried(t, who, w, loads, stores...)
}

// P12.1, P12.2: each step on another world.
func TestOnAnyWorlds(t *testing.T) {
	p := picks(12)
	var ends [8]int
	var errs [10]int
	for range 40000 {
		first := worldOf(&p)
		for cell := range first.Heap {
			first.Heap[cell].Live = true
		}
		c, e := Begin(triedOn(t, &p, 1+p.below(3), first))
		if e != api.OK {
			t.Fatalf("Begin: %d", e)
		}
		for c.Phase < In {
			w := worldOf(&p)
			if !Right(w) {
				t.Fatalf("%v is no world", w)
			}
			toC, toW := toldAll(c, w)
			wantAll(t, c, w, toC, toW)
			toC, toW = toldDrop(c, w)
			wantDrop(t, c, w, toC, toW)
			toC, toW = told(c, w)
			c, _ = wantStep(t, c, w, toC, toW)
		}
		ends[c.Phase]++
		errs[c.Err]++
		if t.Failed() {
			return
		}
	}
	if ends[In] < 4000 || ends[Out] < 4000 {
		t.Errorf("the ends: %v", ends)
	}
	for _, e := range []api.Errno{api.ErrLock, api.ErrClock, api.ErrStale, api.ErrNone} {
		if errs[e] < 500 {
			t.Errorf("%d are Out by %d", errs[e], e)
		}
	}
}

// P12.1: what was read is locked, and stamped, by another one at each phase: ahead
// of Check it is stale, behind that it does not matter.
func TestMeanwhile(t *testing.T) {
	for phase := Lock; phase <= Stamp; phase++ {
		a, w := to(t, phase, begun(t, 1, usual(), []int{1}, put(0, 7)), usual())
		b := begun(t, 2, usual(), []int{2}, put(5, 8))
		for stop := Tick; stop <= In; stop++ {
			_, now := to(t, stop, b, w)
			toC, toW := toldAll(a, now)
			wantAll(t, a, now, toC, toW)
			if phase <= Check && toC.Err != api.ErrStale || phase > Check && toC.Phase != In {
				t.Errorf("behind %d steps of another one, at %d: %+v", stop, phase, toC)
			}
		}
		// If the other one gives up, what was read is as it was.
		gone, now := to(t, Check, b, w)
		_, now = Drop(gone, now)
		if after, _, e := All(a, now); e != api.OK || after.Phase != In {
			t.Errorf("behind another one that was given up, at %d: %+v, %d", phase, after, e)
		}
	}
}

// P12.1: each of two has read what the other one writes: not both come to be.
func TestEachReadsWhatTheOtherOneWrites(t *testing.T) {
	a, w := to(t, Check, begun(t, 1, usual(), []int{0, 1}, put(0, 7)), usual())
	b, w := to(t, Check, begun(t, 2, usual(), []int{0, 1}, put(1, 8)), w)
	a, w = wantStep(t, a, w, a.out(api.ErrStale), World{full(), []api.Record{held(4, 0), held(6, 2), held(0, 0), held(5, 0)}, 11})
	b, w = wantStep(t, b, w, b.at(Put, 11), w)
	wantAll(t, b, w, b.at(In, 11), World{with(put(1, 8)), table(4, 11, 0, 5), 11})
	wantAll(t, a, w, a.out(api.ErrStale), w)
}

// schedule is several commits over one world, and what has come of them so far.
type schedule struct {
	commits []Commit
	world   World
	// given are all versions that a Tick has told.
	given []int
}

func (s schedule) copied() schedule {
	s.commits, s.given = slices.Clone(s.commits), slices.Clone(s.given)
	return s
}

// moved is what a step of one of the commits comes to, or its Drop.
func (s schedule) moved(t *testing.T, i int, drop bool) schedule {
	t.Helper()
	c, w := s.commits[i], s.world
	s = s.copied()
	if drop {
		toC, toW := toldDrop(c, w)
		s.commits[i], s.world = wantCall(t, dropped, c, w, toC, toW, api.OK)
	} else {
		toC, toW := told(c, w)
		s.commits[i], s.world = wantStep(t, c, w, toC, toW)
	}
	s.wantMove(t, c, w, i)
	if c.Phase == Tick && s.commits[i].Phase == Check {
		if slices.Contains(s.given, s.commits[i].Version) {
			t.Errorf("the version %d is given twice", s.commits[i].Version)
		}
		s.given = append(s.given, s.commits[i].Version)
	}
	return s
}

// wantMove holds P12.3 of one move: who ends as Out changes no cell, and no Version;
// what is In is all there, with its Version.
func (s schedule) wantMove(t *testing.T, was Commit, w World, i int) {
	t.Helper()
	c := s.commits[i]
	if !Right(s.world) {
		t.Errorf("%v is no world", s.world)
	}
	for place, r := range s.world.Table {
		if was.Phase < Put && r.Version != w.Table[place].Version {
			t.Errorf("behind %+v the version of %d is %d", c, place, r.Version)
		}
		if owner := r.Owner; owner != 0 && !s.holds(owner, place) {
			t.Errorf("%d holds %d", owner, place)
		}
	}
	if was.Phase < Put && !slices.Equal(s.world.Heap, w.Heap) {
		t.Errorf("behind %+v the heap is %v", c, s.world.Heap)
	}
	if was.Phase >= Put && c.Phase == Out {
		t.Errorf("%+v is Out by now", c)
	}
	if c.Phase == In {
		for _, x := range writes.Last(c.Try.Log) {
			if s.world.Heap[x.Cell].Value != x.Value || s.world.Table[x.Cell%len(s.world.Table)] != held(c.Version, 0) {
				t.Errorf("%+v is In, of %v", c, brief(s.world))
			}
		}
	}
}

// holds: who may hold this record: it has locked what it writes, and has not ended.
func (s schedule) holds(who, place int) bool {
	for _, c := range s.commits {
		if c.Try.Who == who && Tick <= c.Phase && c.Phase <= Stamp {
			return places(len(s.world.Table), c.Try.Log.List...)[place] > 0
		}
	}
	return false
}

// wantSerial asks that all that came to be could have run one behind the other, by
// rising versions, from the heap on.
func wantSerial(t *testing.T, h []api.Cell, ended []Commit, after []api.Cell) {
	t.Helper()
	h = slices.Clone(h)
	ended = slices.DeleteFunc(slices.Clone(ended), func(c Commit) bool { return c.Phase != In })
	slices.SortStableFunc(ended, func(c, other Commit) int {
		if c.Version != other.Version {
			return c.Version - other.Version
		}
		// Of one version the one that writes something comes first.
		return min(len(other.Try.Log.List), 1) - min(len(c.Try.Log.List), 1)
	})
	for i, c := range ended {
		if i > 0 && len(c.Try.Log.List) > 0 && ended[i-1].Version == c.Version {
			t.Errorf("%+v, %+v have one version", ended[i-1], c)
		}
		for _, r := range c.Try.Reads {
			if h[r.Cell].Value != r.Value {
				t.Errorf("%+v, of %v", c, h)
			}
		}
		for _, x := range c.Try.Log.List {
			h[x.Cell].Value = x.Value
		}
	}
	if !slices.Equal(h, after) {
		t.Errorf("one behind the other: %v, want %v", after, h)
	}
}

// each goes on by every move that there is, of which so many may be a Drop, and
// counts the ends.
func (s schedule) each(t *testing.T, h []api.Cell, drops int) int {
	t.Helper()
	ends := 0
	for i, c := range s.commits {
		if c.Phase >= In || t.Failed() {
			continue
		}
		ends += s.moved(t, i, false).each(t, h, drops)
		if drops > 0 {
			ends += s.moved(t, i, true).each(t, h, drops-1)
		}
	}
	if ends == 0 && !t.Failed() {
		wantSerial(t, h, s.commits, s.world.Heap)
		if slices.ContainsFunc(s.world.Table, func(r api.Record) bool { return r.Owner != 0 }) {
			t.Errorf("held at the end: %v", s.world.Table)
		}
		return 1
	}
	return ends
}

// some are tries on two records: the cells 0 and 2 have one, 1 has the other one.
func some(t *testing.T, who int, w World) []Commit {
	return []Commit{
		begun(t, who, w, nil, put(0, 10+who)),
		begun(t, who, w, []int{0}, put(0, 20+who)),
		begun(t, who, w, []int{1}, put(0, 30+who), put(2, 7)),
		begun(t, who, w, []int{0, 1}, put(1, 40+who)),
		begun(t, who, w, []int{2}, put(0, 50+who), put(1, 8), put(0, 60+who)),
		begun(t, who, w, []int{0, 1, 2}),
	}
}

// P12.3: two commits over one world, in every order of their steps, with up to two
// Drops; of three some orders of each.
func TestEveryOrder(t *testing.T) {
	w := World{Heap: live(1, 2, 3), Table: table(3, 5), Clock: 5}
	ends := 0
	for _, a := range some(t, 1, w) {
		for _, b := range some(t, 2, w) {
			s := schedule{commits: []Commit{a, b}, world: w}
			ends += s.each(t, w.Heap, 2)
			ends += schedule{commits: s.commits, world: w.at(api.MaxClock)}.each(t, w.Heap, 0)
			ends += schedule{commits: s.commits, world: w.at(api.MaxClock - 1)}.each(t, w.Heap, 0)
			if t.Failed() {
				return
			}
		}
	}
	if ends < 6000 {
		t.Errorf("%d orders", ends)
	}
	three := schedule{commits: []Commit{some(t, 1, w)[2], some(t, 2, w)[3], some(t, 8, w)[1]}, world: w}
	if ends := three.each(t, w.Heap, 1); ends < 1000 {
		t.Errorf("%d orders of three", ends)
	}
}

// adds is a code that adds to one cell what stands in another one, and 1.
func adds(from, to int) []code.Step {
	sum := []term.Op{{Kind: term.Reg, N: 0}, {Kind: term.Reg, N: 1}, {Kind: term.Plus}, {Kind: term.Const, N: 1}, {Kind: term.Plus}}
	return steps(load(0, from), load(1, to), code.Step{Do: code.Store, A: to, Term: sum})
}

// P12.3: up to eight who try again and again, as of the clock of their time: what
// came to be could have run one behind the other, each version given once.
func TestManyAgainAndAgain(t *testing.T) {
	p := picks(3)
	comeToBe := 0
	for range 300 {
		first := World{Heap: live(1, 2, 3, 4, 5), Table: make([]api.Record, 1+p.below(5))}
		s, ended := schedule{world: first}, []Commit{}
		for who := 1; who <= 2+p.below(7); who++ {
			s.commits = append(s.commits, Commit{Phase: Out})
		}
		for range 300 {
			i := p.below(len(s.commits))
			if s.commits[i].Phase < In {
				s = s.moved(t, i, p.below(24) == 0)
				if s.commits[i].Phase == In {
					ended = append(ended, s.commits[i])
				}
				continue
			}
			c := adds(p.below(5), p.below(5))
			if p.below(4) == 0 {
				c = moves([]int{p.below(5), p.below(5), p.below(5)})
			}
			x := run(t, i+1, s.world.Clock, s.world, c)
			if begun, e := Begin(x); e == api.OK {
				s.commits[i] = begun
				if begun.Phase == In {
					ended = append(ended, begun)
				}
			} else if x.Kind != attempt.Stale {
				t.Errorf("Begin of %+v: %d", x, e)
			}
		}
		for i := range s.commits {
			for s.commits[i].Phase < In {
				s = s.moved(t, i, false)
				if s.commits[i].Phase == In {
					ended = append(ended, s.commits[i])
				}
			}
		}
		wantSerial(t, first.Heap, ended, s.world.Heap)
		comeToBe += len(ended)
		if len(s.given) != s.world.Clock {
			t.Errorf("%d versions were given, up to %d", len(s.given), s.world.Clock)
		}
		if t.Failed() {
			return
		}
	}
	if comeToBe < 3000 {
		t.Errorf("%d have come to be", comeToBe)
	}
}

// P1: tries and commits made by hand end, and do not panic.
func TestCommitsByHand(t *testing.T) {
	numbers := []int{math.MinInt, -turn, -1, 0, 1, 2, 3, 4, 5, 6, 7, 8, 9, 24, turn, math.MaxInt}
	var odd []attempt.Try
	for _, n := range numbers {
		l := writes.Log{List: []api.Write{put(n, n), put(0, 1)}}
		odd = append(odd, attempt.Try{Kind: model.Done, Who: n, Snap: n}, attempt.Try{Kind: model.Done, Who: n, Log: l}, attempt.Try{Kind: n, Who: 1, Log: l})
		odd = append(odd, attempt.Try{Kind: model.Done, Who: 1, Reads: []api.Read{{Cell: n, Version: n, Value: n}}, Log: writes.Log{Marks: []int{n}}})
	}
	for n := range 30 {
		odd = append(odd, attempt.Try{Kind: model.Done, Reads: make([]api.Read, n), Log: writes.Log{List: make([]api.Write, n), Marks: make([]int, n)}, Frames: make([]attempt.Frame, n)})
	}
	all := append(wrongWorlds(), usual(), usual().on(held(9, 1), held(9, 2)))
	for _, x := range odd {
		begun, e := Begin(x)
		if e != api.OK && !sameCommit(begun, Commit{}) {
			t.Errorf("Begin(%+v): %+v, %d", x, begun, e)
		}
		for _, w := range all {
			for _, phase := range numbers {
				wantUntouched(t, Commit{Try: x, Phase: phase, Version: phase, Err: api.Errno(phase)}, w)
			}
			wantUntouched(t, begun, w)
		}
	}
}

// wantUntouched asks no more than that the calls end, that what they were given is
// as it was, and so is what stands beside an error.
func wantUntouched(t *testing.T, c Commit, w World) {
	t.Helper()
	wasC, wasW := commitCopy(c), worldCopy(w)
	for _, do := range []call{Step, All, dropped} {
		gotC, gotW, e := do(c, w)
		if e != api.OK && (!sameCommit(gotC, wasC) || !sameWorld(gotW, wasW)) {
			t.Errorf("of %+v on %v: %+v, %v, %d", wasC, brief(wasW), gotC, brief(gotW), e)
		}
		if !sameCommit(c, wasC) || !sameWorld(w, wasW) {
			t.Fatalf("%+v, %v have become %+v, %v", wasC, brief(wasW), c, brief(w))
		}
	}
}

// roomy is the commit with more behind the end of each of its lists.
func roomy(c Commit) Commit {
	c = commitCopy(c)
	x := &c.Try
	x.Regs = append(x.Regs, 71, 72)[:len(x.Regs)]
	x.Path = append(x.Path, 73, 74)[:len(x.Path)]
	x.Reads = append(x.Reads, api.Read{Cell: 75}, api.Read{Cell: 76})[:len(x.Reads)]
	x.Log.List = append(x.Log.List, put(77, 1), put(78, 1))[:len(x.Log.List)]
	x.Log.Marks = append(x.Log.Marks, 79, 80)[:len(x.Log.Marks)]
	x.Frames = append(x.Frames, attempt.Frame{Mid: 81}, attempt.Frame{Mid: 82})[:len(x.Frames)]
	return c
}

// behind is a commit with its lists up to the ends of their memory.
func behind(c Commit) Commit {
	x := &c.Try
	x.Regs, x.Path, x.Reads = x.Regs[:cap(x.Regs)], x.Path[:cap(x.Path)], x.Reads[:cap(x.Reads)]
	x.Log.List, x.Log.Marks = x.Log.List[:cap(x.Log.List)], x.Log.Marks[:cap(x.Log.Marks)]
	x.Frames = x.Frames[:cap(x.Frames)]
	return c
}

// given are commits at each phase, and worlds on which their steps are done, and end
// in each way.
func given(t *testing.T) ([]Commit, []World) {
	commits := append(phases(t), begun(t, 2, usual(), []int{1, 2}))
	x := run(t, 2, 9, usual(), steps(load(0, 1), either(2, 1), store(0, 7), retry(), store(4, 8), store(3, 9)))
	c, e := Begin(x)
	if e != api.OK {
		t.Fatalf("Begin(%+v): %d", x, e)
	}
	mine := []api.Record{held(4, 2), held(6, 0), held(0, 0), held(5, 2)}
	short := World{Heap: live(5), Table: mine, Clock: 9}
	return append(commits, c), []World{usual(), usual().on(mine...), usual().at(api.MaxClock), usual().on(held(9, 1)), short, {Table: mine}, {}}
}

// R1: no call changes what it was given, nor what stands in memory behind it.
func TestGivenStaysAsItWas(t *testing.T) {
	commits, worlds := given(t)
	for _, one := range commits {
		for _, w := range worlds {
			c, long := roomy(one), worldCopy(w)
			long.Heap, long.Table = append(long.Heap, live(70, 71)...), append(long.Table, held(72, 2), held(73, 2))
			wasC, wasW := commitCopy(behind(c)), worldCopy(long)
			there := World{long.Heap[:len(w.Heap)], long.Table[:len(w.Table)], w.Clock}
			Step(c, there)
			All(c, there)
			Drop(c, there)
			Begin(c.Try)
			Right(there)
			if !sameCommit(c, one) || !sameCommit(behind(c), wasC) || !sameWorld(long, wasW) {
				t.Errorf("%+v, %v have become %+v, %v", wasC, brief(wasW), behind(c), brief(long))
			}
		}
	}
}

// spoil writes other things into a list, and behind it.
func spoil[T comparable](l []T, other T) {
	for i := range l {
		l[i] = other
	}
	_ = append(l, other, other)
}

// spoilOne spoils one list of a commit or of a world, and sets it as it was then.
func spoilOne(c *Commit, w *World, which int) {
	wasC, wasW := commitCopy(*c), worldCopy(*w)
	x := &c.Try
	switch which {
	case 0:
		spoil(x.Regs, 99)
		x.Regs = wasC.Try.Regs
	case 1:
		spoil(x.Path, 99)
		x.Path = wasC.Try.Path
	case 2:
		spoil(x.Reads, api.Read{Cell: 9, Version: 9, Value: 9})
		x.Reads = wasC.Try.Reads
	case 3:
		spoil(x.Log.List, put(9, 9))
		x.Log.List = wasC.Try.Log.List
	case 4:
		spoil(x.Log.Marks, 99)
		x.Log.Marks = wasC.Try.Log.Marks
	case 5:
		_ = append(x.Frames, attempt.Frame{Mid: 99}, attempt.Frame{Mid: 99})
		x.Frames = wasC.Try.Frames
	case 6:
		spoil(w.Heap, api.Cell{Live: true, Value: 99})
		w.Heap = wasW.Heap
	case 7:
		spoil(w.Table, held(99, 7))
		w.Table = wasW.Table
	}
}

// R1: what is answered is new, and no list of it shares memory with another one, or
// with what was given; beside an error, too.
func TestAnswersAreNew(t *testing.T) {
	commits, worlds := given(t)
	for _, one := range commits {
		for _, w := range worlds {
			for which := range 8 {
				for n, do := range []call{Step, All, dropped} {
					c, there := roomy(one), worldCopy(w)
					wasC := commitCopy(behind(c))
					gotC, gotW, _ := do(c, there)
					toC, toW := commitCopy(gotC), worldCopy(gotW)
					spoilOne(&gotC, &gotW, which)
					if !sameCommit(gotC, toC) || !sameWorld(gotW, toW) || !sameCommit(behind(c), wasC) || !sameWorld(there, w) {
						t.Errorf("behind a change of the list %d of what the call %d answers: %+v, %v, of %+v, %v", which, n, gotC, brief(gotW), behind(c), brief(there))
					}
				}
			}
		}
	}
}

// R1: what Begin answers is new.
func TestBeginIsNew(t *testing.T) {
	for _, stores := range [][]api.Write{nil, {put(0, 5), put(4, 6)}} {
		for which := range 6 {
			given := roomy(Commit{Try: tried(t, 2, usual(), []int{1, 2}, stores...)})
			was := commitCopy(behind(given))
			c, e := Begin(given.Try)
			want := commitCopy(c)
			spoilOne(&c, &World{}, which)
			if e != api.OK || !sameCommit(c, want) || !sameCommit(behind(given), was) {
				t.Errorf("behind a change of the list %d: %+v, of %+v", which, c, behind(given))
			}
		}
	}
}

// R1: two moves of one commit do not tell of each other.
func TestTwoOfOne(t *testing.T) {
	commits, worlds := given(t)
	for _, c := range commits {
		for _, w := range worlds {
			one, first, _ := Step(c, w)
			two, second, _ := All(c, w)
			three, third := Drop(c, w)
			wasC, wasW := []Commit{commitCopy(one), commitCopy(two), commitCopy(three)}, []World{worldCopy(first), worldCopy(second), worldCopy(third)}
			All(one, first)
			Drop(one, first)
			Drop(c, first)
			All(c, second)
			Step(one, third)
			for i, got := range []Commit{one, two, three} {
				if there := []World{first, second, third}[i]; !sameCommit(got, wasC[i]) || !sameWorld(there, wasW[i]) {
					t.Errorf("%+v, %v have become %+v, %v", wasC[i], brief(wasW[i]), got, brief(there))
				}
			}
		}
	}
}

// R4, R3: what is answered hangs on what was given alone, whatever was asked for
// meanwhile, and refused.
func TestTheSameAgain(t *testing.T) {
	commits, worlds := given(t)
	for _, c := range commits {
		for _, w := range worlds {
			toC, toW, toErr := Step(c, w)
			allC, allW, allErr := All(c, w)
			dropC, dropW := Drop(c, w)
			for _, other := range wrongWorlds()[:3] {
				Step(c, other)
				Drop(c, other)
				All(commits[0], usual())
				wantCall(t, Step, c, w, toC, toW, toErr)
				wantCall(t, All, c, w, allC, allW, allErr)
				wantDrop(t, c, w, dropC, dropW)
			}
		}
	}
}
