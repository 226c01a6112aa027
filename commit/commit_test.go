package commit

import (
	"math"
	"slices"
	"testing"

	"handshaker/api"
	"handshaker/attempt"
	"handshaker/code"
	"handshaker/model"
	"handshaker/term"
	"handshaker/writes"
)

const (
	least    = -api.MaxValue - 1
	greatest = api.MaxValue
	turn     = 1 << 32
)

func num(n int) []term.Op                     { return []term.Op{{Kind: term.Const, N: n}} }
func load(reg, cell int) code.Step            { return code.Step{Do: code.Load, A: reg, B: cell} }
func store(cell, value int) code.Step         { return code.Step{Do: code.Store, A: cell, Term: num(value)} }
func fail(why int) code.Step                  { return code.Step{Do: code.Fail, A: why} }
func either(first, next int) code.Step        { return code.Step{Do: code.Either, A: first, B: next} }
func retry() code.Step                        { return code.Step{Do: code.Retry} }
func steps(c ...code.Step) []code.Step        { return c }
func put(cell, value int) api.Write           { return api.Write{Cell: cell, Value: value} }
func held(version, owner int) api.Record      { return api.Record{Version: version, Owner: owner} }
func world(c int, r ...api.Record) World      { return World{Heap: full(), Table: r, Clock: c} }
func (c Commit) at(phase, version int) Commit { c.Phase, c.Version = phase, version; return c }
func (c Commit) out(e api.Errno) Commit       { c = c.at(Out, 0); c.Err = e; return c }
func (w World) at(clock int) World            { w.Clock = clock; return w }
func (w World) on(r ...api.Record) World      { w.Table = r; return w }

// live are cells of these values; dead ones may stand behind them.
func live(values ...int) []api.Cell {
	var h []api.Cell
	for _, n := range values {
		h = append(h, api.Cell{Live: true, Value: n})
	}
	return h
}

// full is the longest heap, of live cells.
func full() []api.Cell {
	var h []api.Cell
	for n := range 64 {
		h = append(h, api.Cell{Live: true, Value: 100 + n})
	}
	return h
}

// table is of these versions, and nobody holds any.
func table(versions ...int) []api.Record {
	var r []api.Record
	for _, n := range versions {
		r = append(r, held(n, 0))
	}
	return r
}

// with is the full heap behind these writes.
func with(l ...api.Write) []api.Cell {
	h := full()
	for _, w := range l {
		h[w.Cell].Value = w.Value
	}
	return h
}

// usual is a world of four records that nobody holds, and of the clock 9.
func usual() World { return World{Heap: full(), Table: table(4, 6, 0, 5), Clock: 9} }

// moves is of a try that loads the cells, as many as there is room for, and then stores.
func moves(loads []int, stores ...api.Write) []code.Step {
	var c []code.Step
	for i, cell := range loads[:min(len(loads), 24-len(stores))] {
		c = append(c, load(i%8, cell))
	}
	for _, w := range stores {
		c = append(c, store(w.Cell, w.Value))
	}
	return c
}

// run is what layer 11 makes of a code.
func run(t *testing.T, who, snap int, w World, c []code.Step) attempt.Try {
	t.Helper()
	x, e := attempt.Begin(c, who, snap)
	if e != api.OK {
		t.Fatalf("Begin of %v by %d, %d: %d", c, who, snap, e)
	}
	x, _, e = attempt.Run(x, c, w.Heap, w.Table)
	if e != api.OK {
		t.Fatalf("Run of %v on %v: %d", c, w, e)
	}
	return x
}

// tried is a try that is done, as of the latest version that there may be of w.
func tried(t *testing.T, who int, w World, loads []int, stores ...api.Write) attempt.Try {
	t.Helper()
	x := run(t, who, w.Clock, w, moves(loads, stores...))
	if x.Kind != model.Done {
		t.Fatalf("the try %+v has not been done", x)
	}
	return x
}

// begun is such a try's commit.
func begun(t *testing.T, who int, w World, loads []int, stores ...api.Write) Commit {
	t.Helper()
	c, e := Begin(tried(t, who, w, loads, stores...))
	if e != api.OK {
		t.Fatalf("Begin of a try that loads %v and stores %v: %d", loads, stores, e)
	}
	return c
}

func sameFrame(f, other attempt.Frame) bool {
	return f.Mid == other.Mid && f.End == other.End && f.Long == other.Long && slices.Equal(f.Regs, other.Regs)
}

func sameTry(x, y attempt.Try) bool {
	return x.Who == y.Who && x.Snap == y.Snap && x.Pc == y.Pc && x.Kind == y.Kind && x.Why == y.Why &&
		slices.Equal(x.Regs, y.Regs) && slices.Equal(x.Path, y.Path) && slices.Equal(x.Reads, y.Reads) &&
		slices.Equal(x.Log.List, y.Log.List) && slices.Equal(x.Log.Marks, y.Log.Marks) && slices.EqualFunc(x.Frames, y.Frames, sameFrame)
}

func sameCommit(c, other Commit) bool {
	return c.Phase == other.Phase && c.Version == other.Version && c.Err == other.Err && sameTry(c.Try, other.Try)
}

func sameWorld(w, other World) bool {
	return w.Clock == other.Clock && slices.Equal(w.Heap, other.Heap) && slices.Equal(w.Table, other.Table)
}

func commitCopy(c Commit) Commit {
	x := &c.Try
	x.Regs, x.Path, x.Reads = slices.Clone(x.Regs), slices.Clone(x.Path), slices.Clone(x.Reads)
	x.Log = writes.Log{List: slices.Clone(x.Log.List), Marks: slices.Clone(x.Log.Marks)}
	x.Frames = slices.Clone(x.Frames)
	return c
}

func worldCopy(w World) World {
	w.Heap, w.Table = slices.Clone(w.Heap), slices.Clone(w.Table)
	return w
}

// brief keeps what is long out of the tests' messages.
func brief(w World) World {
	w.Heap = w.Heap[:min(len(w.Heap), 8)]
	w.Table = w.Table[:min(len(w.Table), 20)]
	return w
}

// call is Step, All, or Drop, that has no error to tell.
type call func(c Commit, w World) (Commit, World, api.Errno)

func dropped(c Commit, w World) (Commit, World, api.Errno) {
	after, world := Drop(c, w)
	return after, world, api.OK
}

// wantCall asks for what a call answers, and that what it was given has stayed as
// it was. It answers what the call did.
func wantCall(t *testing.T, do call, c Commit, w World, toC Commit, toW World, toErr api.Errno) (Commit, World) {
	t.Helper()
	wasC, wasW := commitCopy(c), worldCopy(w)
	gotC, gotW, e := do(c, w)
	if !sameCommit(gotC, toC) || !sameWorld(gotW, toW) || e != toErr {
		t.Errorf("of %+v on %v: %+v, %v, %d, want %+v, %v, %d", wasC, brief(wasW), gotC, brief(gotW), e, toC, brief(toW), toErr)
	}
	if !sameCommit(c, wasC) || !sameWorld(w, wasW) {
		t.Errorf("%+v, %v have become %+v, %v", wasC, brief(wasW), c, brief(w))
	}
	return gotC, gotW
}

func wantStep(t *testing.T, c Commit, w World, toC Commit, toW World) (Commit, World) {
	t.Helper()
	return wantCall(t, Step, c, w, toC, toW, api.OK)
}

func wantAll(t *testing.T, c Commit, w World, toC Commit, toW World) {
	t.Helper()
	wantCall(t, All, c, w, toC, toW, api.OK)
}

func wantDrop(t *testing.T, c Commit, w World, toC Commit, toW World) {
	t.Helper()
	wantCall(t, dropped, c, w, toC, toW, api.OK)
}

func wantRefused(t *testing.T, do call, c Commit, w World) {
	t.Helper()
	wantCall(t, do, c, w, commitCopy(c), worldCopy(w), api.ErrArg)
}

// P12.1: the chapter's numbers, and what nothing is.
func TestNumbers(t *testing.T) {
	if got := []int{Lock, Tick, Check, Put, Stamp, In, Out}; !slices.Equal(got, []int{0, 1, 2, 3, 4, 5, 6}) {
		t.Errorf("the phases: %v", got)
	}
}

// P12.1: the chapter's example, which is that of the whole, too.
func TestExamples(t *testing.T) {
	w := World{Heap: live(5, 6), Table: table(0, 0), Clock: 3}
	c := begun(t, 2, w, nil, put(1, 8))
	other := w.on(held(0, 0), held(0, 1))
	wantStep(t, c, other, c.out(api.ErrLock), other)
	wantAll(t, c, other, c.out(api.ErrLock), other)
}

// wrongHeaps are none.
func wrongHeaps() [][]api.Cell {
	return [][]api.Cell{
		nil, {}, append(full(), api.Cell{}), append(full(), live(1)...), make([]api.Cell, 1<<10),
		{{Value: 1}}, append(live(5), api.Cell{Value: -1}), live(greatest + 1), live(5, least-1), live(math.MinInt), live(5, math.MaxInt), live(turn),
	}
}

// wrongTables are none.
func wrongTables() [][]api.Record {
	return [][]api.Record{
		nil, {}, make([]api.Record, 17), make([]api.Record, 1<<10), table(-1), table(0, api.MaxClock+1), table(turn), table(0, math.MinInt), table(math.MaxInt),
		{held(0, -1)}, {held(0, 9)}, {{}, held(0, turn+1)}, {{}, held(0, math.MinInt)}, {held(3, math.MaxInt)},
	}
}

// wrongWorlds are none, each by one thing alone, and by several.
func wrongWorlds() []World {
	var all []World
	for _, h := range wrongHeaps() {
		all = append(all, World{Heap: h, Table: table(4, 6, 0, 5), Clock: 9}, World{Heap: h, Table: make([]api.Record, 16), Clock: api.MaxClock})
	}
	for _, r := range wrongTables() {
		all = append(all, World{Heap: full(), Table: r, Clock: api.MaxClock}, World{Heap: live(5), Table: r})
	}
	for _, clock := range []int{-1, -9, api.MaxClock + 1, turn, turn + 9, math.MinInt, math.MaxInt} {
		all = append(all, usual().at(clock), World{Heap: live(5), Table: table(0), Clock: clock})
	}
	for _, clock := range []int{0, 4, 5} {
		all = append(all, usual().at(clock))
	}
	return append(all, World{}, World{Clock: 9}, world(0, held(1, 0)), world(0, held(0, 0), held(1, 2)), world(api.MaxClock-1, held(api.MaxClock, 1)))
}

// P12.1: worlds of each length, and one past each end.
func TestRightLengths(t *testing.T) {
	for cells := range 67 {
		for records := range 19 {
			w := World{Heap: make([]api.Cell, cells), Table: make([]api.Record, records)}
			if got, want := Right(w), 1 <= cells && cells <= 64 && 1 <= records && records <= 16; got != want {
				t.Errorf("Right with %d cells, %d records: %v", cells, records, got)
			}
		}
	}
	for _, w := range wrongWorlds() {
		if Right(w) {
			t.Errorf("Right(%v)", brief(w))
		}
	}
}

// P12.1: each clock beside each version, wherever that stands, and whoever holds it.
func TestRightClocks(t *testing.T) {
	edges := []int{math.MinInt, -turn, -1, 0, 1, 2, 7, api.MaxClock - 1, api.MaxClock, api.MaxClock + 1, turn, math.MaxInt}
	isVersion := func(n int) bool { return 0 <= n && n <= api.MaxClock }
	for _, clock := range edges {
		for _, version := range edges {
			for records := 1; records <= 16; records += 5 {
				for place := range records {
					w := World{Heap: live(5), Table: make([]api.Record, records), Clock: clock}
					w.Table[place] = held(version, place%9)
					want := isVersion(clock) && isVersion(version) && version <= clock
					if got := Right(w); got != want {
						t.Errorf("Right(%v): %v", w, got)
					}
				}
			}
		}
	}
	for owner := -1; owner <= 9; owner++ {
		w := World{Heap: []api.Cell{{}}, Table: []api.Record{held(7, 0), held(7, owner)}, Clock: 7}
		if got, want := Right(w), 0 <= owner && owner <= 8; got != want {
			t.Errorf("Right(%v): %v", w, got)
		}
	}
}

// P12.1: of who writes something, and of who writes nothing, as of each version.
func TestBegin(t *testing.T) {
	for who := 1; who <= 8; who++ {
		for _, snap := range []int{0, 1, 6, api.MaxClock - 1, api.MaxClock} {
			w := World{Heap: full(), Table: table(snap, 0), Clock: snap}
			for _, loads := range [][]int{nil, {5}, {0, 1, 2, 63}} {
				x := tried(t, who, w, loads)
				if c, e := Begin(x); e != api.OK || !sameCommit(c, Commit{Try: x, Phase: In, Version: snap}) {
					t.Errorf("Begin(%+v): %+v, %d", x, c, e)
				}
				for _, stores := range [][]api.Write{{put(0, 1)}, {put(5, 105)}, {put(63, least), put(63, 7), put(0, greatest)}} {
					x := tried(t, who, w, loads, stores...)
					if c, e := Begin(x); e != api.OK || !sameCommit(c, Commit{Try: x}) {
						t.Errorf("Begin(%+v): %+v, %d", x, c, e)
					}
				}
			}
		}
	}
	var many []api.Write
	for n := range 24 {
		many = append(many, put(63-n, n))
		x := tried(t, 3, usual(), nil, many...)
		if c, e := Begin(x); e != api.OK || !sameCommit(c, Commit{Try: x}) {
			t.Errorf("Begin(%+v): %+v, %d", x, c, e)
		}
	}
}

// P12.1: what was undone is not written.
func TestBeginOfWhatWasUndone(t *testing.T) {
	nothing := steps(either(2, 1), store(0, 7), retry(), load(1, 2))
	x := run(t, 4, 8, usual(), nothing)
	if c, e := Begin(x); e != api.OK || !sameCommit(c, Commit{Try: x, Phase: In, Version: 8}) {
		t.Errorf("Begin(%+v): %+v, %d", x, c, e)
	}
	for _, c := range [][]code.Step{append(nothing, store(3, 1)), append(steps(store(3, 1)), nothing...), steps(either(1, 1), store(0, 7), retry())} {
		x := run(t, 4, 8, usual(), c)
		if c, e := Begin(x); e != api.OK || !sameCommit(c, Commit{Try: x}) {
			t.Errorf("Begin(%+v): %+v, %d", x, c, e)
		}
	}
}

// P12.1, R2: a try that runs, and one that ended in any way but Done.
func TestBeginRefused(t *testing.T) {
	refused := func(x attempt.Try) {
		t.Helper()
		if c, e := Begin(x); e != api.ErrArg || !sameCommit(c, Commit{}) {
			t.Errorf("Begin(%+v): %+v, %d", x, c, e)
		}
	}
	ahead := moves([]int{1, 4}, put(0, 7), put(3, 8))
	for kind, last := range map[int]code.Step{model.Again: retry(), model.Failed: fail(9), model.Bad: load(0, 4), attempt.Stale: load(0, 2)} {
		w := usual()
		w.Heap = append(live(5, 6, 7, 8), api.Cell{})
		for _, c := range [][]code.Step{steps(last), append(moves([]int{1}, put(0, 7)), last), steps(either(2, 1), store(3, 3), last, last)} {
			if kind == attempt.Stale {
				w.Table[2].Owner = 4
			}
			x := run(t, 3, 9, w, c)
			if x.Kind != kind {
				t.Fatalf("the try %+v has ended otherwise than as %d", x, kind)
			}
			refused(x)
		}
	}
	x, _ := attempt.Begin(ahead, 3, 9)
	for range ahead {
		refused(x)
		x, _ = attempt.Step(x, ahead, full(), table(9))
	}
	if c, e := Begin(x); e != api.OK || c.Phase != Lock {
		t.Errorf("Begin(%+v): %+v, %d", x, c, e)
	}
	refused(attempt.Try{})
	for _, kind := range []int{math.MinInt, -1, 0, 2, 3, 4, 5, 6, 7, turn + 1, math.MaxInt} {
		x.Kind = kind
		refused(x)
	}
}

// places are those of the cells' records, of so many.
func places(records int, l ...api.Write) map[int]int {
	all := map[int]int{}
	for _, w := range l {
		all[w.Cell%records]++
	}
	return all
}

// spreads are writes from one to as many as there may be.
func spreads() [][]api.Write {
	all := [][]api.Write{{put(0, 1)}, {put(63, 2)}, {put(5, 3), put(21, 4)}, {put(7, 1), put(7, 2), put(7, 3)}, {put(15, 1), put(0, 1), put(31, 1)}}
	var many, few []api.Write
	for n := range 24 {
		many = append(many, put(63-n, n))
		few = append(few, put(2+n%3, n))
	}
	return append(all, many, few)
}

// P12.1: all records of what is written are locked, with tables of each length; what
// else there is stays as it was.
func TestLock(t *testing.T) {
	for _, l := range spreads() {
		for records := 1; records <= 16; records++ {
			for who := 1; who <= 8; who++ {
				w := World{Heap: full(), Table: make([]api.Record, records), Clock: 90 + records}
				for place := range records {
					w.Table[place].Version = 90 + place
				}
				c := begun(t, who, w, []int{1, 8}, l...)
				locked := places(records, l...)
				after := worldCopy(w)
				for place := range records {
					switch {
					case locked[place] > 0:
						// Some of them may be its own already.
						w.Table[place].Owner = []int{0, who}[place%2]
						after.Table[place].Owner = who
					case place%4 == 0:
						w.Table[place].Owner = 1 + place%8
						after.Table[place].Owner = 1 + place%8
					}
				}
				wantStep(t, c, w, c.at(Tick, 0), after)
			}
		}
	}
}

// P12.1: a record that somebody else holds, wherever it stands: none is locked, and
// what was held ahead of that is not, either.
func TestLockRefused(t *testing.T) {
	for _, l := range spreads() {
		for _, records := range []int{1, 2, 3, 15, 16} {
			for place := range places(records, l...) {
				for who := 1; who <= 8; who++ {
					w := World{Heap: full(), Table: make([]api.Record, records), Clock: 7}
					c := begun(t, who, w, []int{2}, l...)
					other := who%8 + 1
					for i := range records {
						w.Table[i].Owner = []int{who, 0, other}[i%3]
					}
					w.Table[place] = held(7, other)
					after := worldCopy(w)
					for i := range records {
						if after.Table[i].Owner == who {
							after.Table[i].Owner = 0
						}
					}
					wantStep(t, c, w, c.out(api.ErrLock), after)
					wantAll(t, c, w, c.out(api.ErrLock), after)
				}
			}
		}
	}
	// What nobody else holds does not matter to who writes elsewhere.
	w := world(9, held(1, 0), held(2, 0))
	c := begun(t, 5, w, nil, put(4, 1))
	wantStep(t, c, w.on(held(1, 0), held(2, 6)), c.at(Tick, 0), w.on(held(1, 5), held(2, 6)))
	wantStep(t, c, w.on(held(1, 6), held(2, 0)), c.out(api.ErrLock), w.on(held(1, 6), held(2, 0)))
}

// to is a commit, and its world, ahead of the step of that phase.
func to(t *testing.T, phase int, c Commit, w World) (Commit, World) {
	t.Helper()
	for c.Phase < phase {
		next, world, e := Step(c, w)
		if e != api.OK || next.Phase != c.Phase+1 {
			t.Fatalf("Step of %+v on %v: %+v, %d", c, brief(w), next, e)
		}
		c, w = next, world
	}
	return c, w
}

// P12.1: each clock, up to the last one.
func TestTick(t *testing.T) {
	c := begun(t, 5, usual(), []int{1}, put(4, 1), put(7, 2))
	c, w := to(t, Tick, c, usual())
	for _, clock := range []int{6, 7, 9, 1000, api.MaxClock - 2, api.MaxClock - 1} {
		wantStep(t, c, w.at(clock), c.at(Check, clock+1), w.at(clock+1))
	}
	for _, clock := range []int{0, 1, api.MaxClock - 1} {
		other := world(clock, held(clock, 5), held(0, 2))
		wantStep(t, c, other, c.at(Check, clock+1), other.at(clock+1))
	}
	last := w.at(api.MaxClock)
	wantStep(t, c, last, c.out(api.ErrClock), last.on(table(4, 6, 0, 5)...))
	wantAll(t, c, last, c.out(api.ErrClock), last.on(table(4, 6, 0, 5)...))
	first := begun(t, 5, usual(), []int{1}, put(4, 1))
	wantAll(t, first, usual().at(api.MaxClock), first.out(api.ErrClock), usual().at(api.MaxClock))
	// Others hold what they held.
	last.Table = []api.Record{held(api.MaxClock, 5), held(3, 1), held(4, 5), held(0, 0), held(7, 8)}
	wantStep(t, c, last, c.out(api.ErrClock), last.on(held(api.MaxClock, 0), held(3, 1), held(4, 0), held(0, 0), held(7, 8)))
}

// P12.1: what was read, stamped and held meanwhile by whomever.
func TestCheck(t *testing.T) {
	for who := 1; who <= 8; who++ {
		c, w := to(t, Check, begun(t, who, usual(), []int{1, 2}, put(4, 1)), usual())
		other := who%8 + 1
		for version := 0; version <= 10; version++ {
			for owner := 0; owner <= 8; owner++ {
				now := w.on(held(4, who), held(version, owner), held(0, 0), held(5, other))
				free := []api.Record{held(4, 0), held(version, owner), held(0, 0), held(5, other)}
				if owner == who {
					free[1].Owner = 0
				}
				if version == 6 && (owner == 0 || owner == who) {
					wantStep(t, c, now, c.at(Put, 10), now)
				} else {
					wantStep(t, c, now, c.out(api.ErrStale), now.on(free...))
					wantAll(t, c, now, c.out(api.ErrStale), now.on(free...))
				}
			}
		}
	}
}

// aged is a world of as many records as there may be, each of its place as Version.
func aged() World {
	w := world(15, make([]api.Record, 16)...)
	for place := range w.Table {
		w.Table[place].Version = place
	}
	return w
}

// P12.1: from one to as many reads as there may be, any of which may be stale.
func TestCheckEachRead(t *testing.T) {
	var cells []int
	for n := range 23 {
		cells = append(cells, 3*n%64)
		c, w := to(t, Check, begun(t, 2, aged(), cells, put(1, 9)), aged())
		wantStep(t, c, w, c.at(Put, 16), w)
		wasRead := map[int]int{}
		for _, cell := range cells {
			wasRead[cell%16]++
		}
		for place := range 16 {
			for _, r := range []api.Record{held(16, 0), held(place, 7)} {
				now := worldCopy(w)
				now.Table[place] = r
				if wasRead[place] == 0 {
					wantStep(t, c, now, c.at(Put, 16), now)
					continue
				}
				after := worldCopy(now)
				// It held the record of the cell 1 alone, if nobody has that by now.
				if after.Table[1].Owner == 2 {
					after.Table[1].Owner = 0
				}
				wantStep(t, c, now, c.out(api.ErrStale), after)
			}
		}
	}
}

// P12.1: without a read no record matters, and none does that was not read.
func TestCheckOfWhatWasNotRead(t *testing.T) {
	c, w := to(t, Check, begun(t, 6, usual(), nil, put(4, 1)), usual())
	for _, r := range [][]api.Record{table(9, 9), {held(10, 1)}, {held(0, 6)}, slices.Repeat([]api.Record{held(10, 3)}, 16)} {
		wantStep(t, c, w.on(r...), c.at(Put, 10), w.on(r...))
	}
	// What was stored ahead of its load was not read.
	x := run(t, 6, 9, usual(), steps(store(4, 7), load(0, 4), store(5, 1)))
	d, _ := Begin(x)
	d, w = to(t, Check, d, usual())
	wantStep(t, d, w.on(held(10, 1), held(10, 2)), d.at(Put, 10), w.on(held(10, 1), held(10, 2)))
}

// P12.1: the last value of each cell is put, and no record is changed.
func TestPut(t *testing.T) {
	for _, l := range append(spreads(), []api.Write{put(0, least), put(1, greatest), put(2, 0), put(3, -1), put(0, 100)}, []api.Write{put(9, 109)}) {
		c, w := to(t, Put, begun(t, 2, usual(), []int{1}, l...), usual())
		after := worldCopy(w)
		after.Heap = with(l...)
		wantStep(t, c, w, c.at(Stamp, 10), after)
		// On another world, too, whoever holds its records.
		for _, r := range [][]api.Record{table(12), {held(0, 5), held(3, 2)}, {held(11, 2)}} {
			other := World{Heap: with(put(5, 0), put(63, 0)), Table: r, Clock: 12}
			changed := worldCopy(other)
			changed.Heap = with(append([]api.Write{put(5, 0), put(63, 0)}, l...)...)
			wantStep(t, c, other, c.at(Stamp, 10), changed)
		}
	}
}

// P12.1: on another world a cell may not be live: nothing is put then.
func TestPutWhereCellsHaveGone(t *testing.T) {
	l := []api.Write{put(0, 7), put(2, 8), put(5, 9)}
	c, w := to(t, Put, begun(t, 2, usual(), []int{1}, l...), usual())
	free := []api.Record{held(4, 0), held(6, 0), held(0, 0), held(5, 0)}
	for _, cell := range []int{0, 2, 5} {
		gone := worldCopy(w)
		gone.Heap[cell] = api.Cell{}
		wantStep(t, c, gone, c.out(api.ErrNone), World{gone.Heap, free, 10})
		wantAll(t, c, gone, c.out(api.ErrNone), World{gone.Heap, free, 10})
		wantDrop(t, c, gone, c.out(api.ErrNone), World{gone.Heap, free, 10})
		short := worldCopy(w)
		short.Heap = short.Heap[:max(cell, 1)]
		wantStep(t, c, short, c.out(api.ErrNone), World{short.Heap, free, 10})
	}
	// A cell that it does not write does not matter.
	gone := worldCopy(w)
	gone.Heap[1], gone.Heap[3] = api.Cell{}, api.Cell{}
	gone.Heap = gone.Heap[:6]
	after := worldCopy(gone)
	after.Heap[0].Value, after.Heap[2].Value, after.Heap[5].Value = 7, 8, 9
	wantStep(t, c, gone, c.at(Stamp, 10), after)
}

// P12.1: all that is held is stamped, and nothing else.
func TestStamp(t *testing.T) {
	for _, clock := range []int{0, 1, 9, api.MaxClock - 1} {
		for who := 1; who <= 8; who++ {
			w := World{Heap: full(), Table: table(0, clock, 0, 0), Clock: clock}
			c, w := to(t, Stamp, begun(t, who, w, []int{0}, put(0, 5), put(1, 6)), w)
			other := who%8 + 1
			in, free := c.at(In, clock+1), held(clock+1, 0)
			wantStep(t, c, w, in, w.on(free, free, held(0, 0), held(0, 0)))
			wantStep(t, c, w.on(held(0, who), held(0, other), held(clock, who)), in, w.on(free, held(0, other), free))
			wantStep(t, c, w.on(held(clock, who)), in, w.on(free))
			// Of who holds nothing nothing is stamped.
			wantStep(t, c, w.on(held(clock+1, other), held(clock, 0)), in, w.on(held(clock+1, other), held(clock, 0)))
		}
	}
}

// P12.1: on another world a record that is held may be as new as the commit.
func TestStampRefused(t *testing.T) {
	c, w := to(t, Stamp, begun(t, 2, usual(), []int{0}, put(0, 5), put(1, 6)), usual())
	w.Clock = 12
	for place := range 3 {
		for version := 8; version <= 12; version++ {
			r := []api.Record{held(0, 2), held(9, 2), held(5, 2), held(12, 3)}
			r[place].Version = version
			free := []api.Record{held(r[0].Version, 0), held(r[1].Version, 0), held(r[2].Version, 0), held(12, 3)}
			if version < 10 {
				wantStep(t, c, w.on(r...), c.at(In, 10), w.on(held(10, 0), held(10, 0), held(10, 0), held(12, 3)))
			} else {
				wantStep(t, c, w.on(r...), c.out(api.ErrClock), w.on(free...))
				wantAll(t, c, w.on(r...), c.out(api.ErrClock), w.on(free...))
				wantDrop(t, c, w.on(r...), c.out(api.ErrClock), w.on(free...))
			}
		}
	}
}

// phases is one commit at each phase, Out by each of its errors.
func phases(t *testing.T) []Commit {
	t.Helper()
	var all []Commit
	c, w := begun(t, 2, usual(), []int{1, 2}, put(0, 5), put(4, 6), put(3, 7)), usual()
	for phase := Lock; phase <= In; phase++ {
		c, w = to(t, phase, c, w)
		all = append(all, c)
	}
	first := all[Lock]
	for e, now := range map[api.Errno]World{api.ErrLock: usual().on(held(0, 1)), api.ErrClock: usual().at(api.MaxClock), api.ErrStale: usual().on(table(4, 7, 0, 5)...)} {
		x, _, _ := All(first, now)
		if !sameCommit(x, first.out(e)) {
			t.Errorf("Out: %+v, want %+v", x, first.out(e))
		}
		all = append(all, x)
	}
	return all
}

// P12.1, P12.2: what is no world, at each phase.
func TestRefused(t *testing.T) {
	for _, c := range phases(t) {
		for _, w := range wrongWorlds() {
			wantRefused(t, Step, c, w)
			wantDrop(t, c, w, c, w)
			if c.Phase < In {
				wantRefused(t, All, c, w)
			}
		}
	}
}

// P12.1, P12.2: what is In or Out has no step, and can't be dropped; All has nothing
// to do then, on whatever there is.
func TestEnded(t *testing.T) {
	ended := phases(t)[In:]
	for _, loads := range [][]int{nil, {3}, {0, 1, 2}} {
		for who := 1; who <= 8; who++ {
			ended = append(ended, begun(t, who, usual(), loads))
		}
	}
	mine := usual().on(held(9, 2), held(1, 3), held(0, 2))
	for _, c := range ended {
		for _, w := range []World{usual(), mine, {Heap: live(5), Table: table(0)}, usual().at(api.MaxClock)} {
			wantRefused(t, Step, c, w)
			wantAll(t, c, w, c, w)
			wantDrop(t, c, w, c, w)
		}
		for _, w := range wrongWorlds() {
			wantRefused(t, Step, c, w)
			wantAll(t, c, w, c, w)
			wantDrop(t, c, w, c, w)
		}
	}
}

// P12.1: All is Step on one world, from each phase.
func TestAll(t *testing.T) {
	l := []api.Write{put(0, 5), put(4, 6), put(3, 7)}
	c, w := begun(t, 2, usual(), []int{1, 2, 0}, l...), usual()
	for phase := Lock; phase <= In; phase++ {
		c, w = to(t, phase, c, w)
		wantAll(t, c, w, c.at(In, 10), World{with(l...), table(10, 6, 0, 10), 10})
	}
	for records := 1; records <= 16; records++ {
		for _, l := range spreads() {
			w := World{Heap: full(), Table: make([]api.Record, records), Clock: 7}
			c := begun(t, 8, w, []int{0, 1}, l...)
			after := World{with(l...), make([]api.Record, records), 8}
			for place := range places(records, l...) {
				after.Table[place].Version = 8
			}
			wantAll(t, c, w, c.at(In, 8), after)
		}
	}
}

// P12.2: at Lock, Tick and Check it is given up, whatever the world is like.
func TestDropAhead(t *testing.T) {
	for who := 1; who <= 8; who++ {
		other := who%8 + 1
		c, w := begun(t, who, usual(), []int{1}, put(0, 5), put(4, 6), put(3, 7)), usual()
		for phase := Lock; phase <= Check; phase++ {
			c, w = to(t, phase, c, w)
			wantDrop(t, c, w, c.out(api.ErrStale), usual().at(w.Clock))
			wantDrop(t, c, w.at(api.MaxClock), c.out(api.ErrStale), usual().at(api.MaxClock))
			wantDrop(t, c, w.on(held(9, other)), c.out(api.ErrStale), w.on(held(9, other)))
			// It holds nothing any more, wherever it held it.
			mine := w.on(held(9, who), held(2, other), held(0, who), held(0, 0), held(3, who))
			wantDrop(t, c, mine, c.out(api.ErrStale), w.on(held(9, 0), held(2, other), held(0, 0), held(0, 0), held(3, 0)))
			wantDrop(t, c, World{[]api.Cell{{}}, table(0), 0}, c.out(api.ErrStale), World{[]api.Cell{{}}, table(0), 0})
		}
	}
}

// P12.2: at Put and Stamp what is being put is put.
func TestDropTooLate(t *testing.T) {
	for who := 1; who <= 8; who++ {
		l := []api.Write{put(0, 5), put(4, 6), put(3, 7)}
		c, w := begun(t, who, usual(), []int{1}, l...), usual()
		for phase := Put; phase <= Stamp; phase++ {
			c, w = to(t, phase, c, w)
			wantDrop(t, c, w, c.at(In, 10), World{with(l...), table(10, 6, 0, 10), 10})
			// Of what was read nobody asks any more.
			now := w.on(held(4, who), held(10, 0), held(0, who%8+1), held(5, who))
			wantDrop(t, c, now, c.at(In, 10), World{with(l...), []api.Record{held(10, 0), held(10, 0), held(0, who%8+1), held(10, 0)}, 10})
		}
	}
}
