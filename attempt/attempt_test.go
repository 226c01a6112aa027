package attempt

import (
	"math"
	"slices"
	"testing"

	"handshaker/api"
	"handshaker/code"
	"handshaker/model"
	"handshaker/term"
	"handshaker/writes"
)

const (
	least    = -api.MaxValue - 1
	greatest = api.MaxValue
	turn     = 1 << 32
)

// Whoever tries in most tests, and as of which version.
const (
	who  = 2
	snap = 6
)

var (
	retry = code.Step{Do: code.Retry}
	not   = term.Op{Kind: term.Not}
)

func num(n int) []term.Op { return []term.Op{{Kind: term.Const, N: n}} }
func reg(n int) []term.Op { return []term.Op{{Kind: term.Reg, N: n}} }

// plus is the register n, and k.
func plus(n, k int) []term.Op {
	return []term.Op{{Kind: term.Reg, N: n}, {Kind: term.Const, N: k}, {Kind: term.Plus}}
}

// longest is of as many operations as there may be: 1 of 0, and 0 of all others.
func longest(n int) []term.Op { return append(num(n), slices.Repeat([]term.Op{not}, 11)...) }

func load(reg, cell int) code.Step          { return code.Step{Do: code.Load, A: reg, B: cell} }
func set(reg int, x []term.Op) code.Step    { return code.Step{Do: code.Set, A: reg, Term: x} }
func store(cell int, x []term.Op) code.Step { return code.Step{Do: code.Store, A: cell, Term: x} }
func skip(n int, x []term.Op) code.Step     { return code.Step{Do: code.Skip, A: n, Term: x} }
func fail(why int) code.Step                { return code.Step{Do: code.Fail, A: why} }
func either(first, next int) code.Step      { return code.Step{Do: code.Either, A: first, B: next} }
func retries(n int) []code.Step             { return slices.Repeat(steps(retry), n) }
func steps(c ...code.Step) []code.Step      { return c }
func put(cell, value int) api.Write         { return api.Write{Cell: cell, Value: value} }
func join(l ...[]code.Step) []code.Step     { return slices.Concat(l...) }
func regsOf(l ...int) []int                 { return append(l, make([]int, 8-len(l))...) }
func has(cell, version, value int) api.Read {
	return api.Read{Cell: cell, Version: version, Value: value}
}
func choose(first, next []code.Step) []code.Step {
	return join(steps(either(len(first), len(next))), first, next)
}

// sets are n steps that do no more than to be behind one another.
func sets(n int) []code.Step { return slices.Repeat(steps(set(7, num(0))), n) }

// live are cells of these values; dead ones may stand behind them.
func live(values ...int) []api.Cell {
	var h []api.Cell
	for _, n := range values {
		h = append(h, api.Cell{Live: true, Value: n})
	}
	return h
}

// usual has the live cells 0 to 3, and 5; 4 and 6 are none, and 7 is past its end.
func usual() []api.Cell {
	return append(live(10, 0, 7, -1), api.Cell{}, api.Cell{Live: true, Value: 55}, api.Cell{})
}

// full is the longest heap, of live cells.
func full() []api.Cell {
	var h []api.Cell
	for n := range 64 {
		h = append(h, api.Cell{Live: true, Value: 100 + n})
	}
	return h
}

// table is of these versions, and nobody holds any.
func table(versions ...int) []api.Record {
	var r []api.Record
	for _, n := range versions {
		r = append(r, api.Record{Version: n})
	}
	return r
}

// free is of four records that whoever tries as of snap may read.
func free() []api.Record { return table(4, 6, 0, 5) }

func sameFrame(f, other Frame) bool {
	return f.Mid == other.Mid && f.End == other.End && f.Long == other.Long && slices.Equal(f.Regs, other.Regs)
}

func sameTry(x, y Try) bool {
	return x.Who == y.Who && x.Snap == y.Snap && x.Pc == y.Pc && x.Kind == y.Kind && x.Why == y.Why &&
		slices.Equal(x.Regs, y.Regs) && slices.Equal(x.Path, y.Path) && slices.Equal(x.Reads, y.Reads) &&
		slices.Equal(x.Log.List, y.Log.List) && slices.Equal(x.Log.Marks, y.Log.Marks) && slices.EqualFunc(x.Frames, y.Frames, sameFrame)
}

func sameOut(o, other model.Out) bool {
	return o.Kind == other.Kind && o.Why == other.Why && slices.Equal(o.Regs, other.Regs) && slices.Equal(o.Path, other.Path) &&
		slices.Equal(o.Seen, other.Seen) && slices.Equal(o.Writes, other.Writes)
}

func sameStep(s, other code.Step) bool {
	return s.Do == other.Do && s.A == other.A && s.B == other.B && slices.Equal(s.Term, other.Term)
}

func codeCopy(c []code.Step) []code.Step {
	c = slices.Clone(c)
	for i := range c {
		c[i].Term = slices.Clone(c[i].Term)
	}
	return c
}

func tryCopy(x Try) Try {
	x.Regs, x.Path, x.Reads = slices.Clone(x.Regs), slices.Clone(x.Path), slices.Clone(x.Reads)
	x.Log = writes.Log{List: slices.Clone(x.Log.List), Marks: slices.Clone(x.Log.Marks)}
	x.Frames = slices.Clone(x.Frames)
	for i := range x.Frames {
		x.Frames[i].Regs = slices.Clone(x.Frames[i].Regs)
	}
	return x
}

// brief keeps what is long out of the tests' messages.
func brief[T any](l []T) []T { return l[:min(len(l), 24)] }

func begun(t *testing.T, c []code.Step) Try {
	t.Helper()
	x, e := Begin(c, who, snap)
	if e != api.OK {
		t.Fatalf("Begin of %v: %d", brief(c), e)
	}
	return x
}

// after is what stands behind n steps on one heap and one table.
func after(t *testing.T, n int, c []code.Step, h []api.Cell, r []api.Record) Try {
	t.Helper()
	x := begun(t, c)
	for i := range n {
		y, e := Step(x, c, h, r)
		if e != api.OK {
			t.Fatalf("Step %d of %v: %d", i, brief(c), e)
		}
		x = y
	}
	return x
}

// wantStep takes one step, and answers what came of it.
func wantStep(t *testing.T, x Try, c []code.Step, h []api.Cell, r []api.Record, want Try) Try {
	t.Helper()
	was := tryCopy(x)
	y, e := Step(x, c, h, r)
	if e != api.OK || !sameTry(y, want) {
		t.Errorf("Step of %+v in %v on %v, %v: %+v, %d, want %+v", was, brief(c), brief(h), r, y, e, want)
	}
	if !sameTry(x, was) {
		t.Errorf("Step of %+v in %v: it has become %+v", was, brief(c), x)
	}
	return y
}

// at is a try without anything but its Pc, its registers and its path.
func at(pc int, regs []int, path ...int) Try {
	return Try{Who: who, Snap: snap, Pc: pc, Regs: regs, Path: path}
}

func (t Try) ended(kind, why int) Try            { t.Kind, t.Why = kind, why; return t }
func (t Try) saw(l ...api.Read) Try              { t.Reads = l; return t }
func (t Try) wrote(l ...api.Write) Try           { t.Log.List = l; return t }
func (t Try) marked(marks ...int) Try            { t.Log.Marks = marks; return t }
func (t Try) framed(frames ...Frame) Try         { t.Frames = frames; return t }
func frame(mid, end, long int, regs []int) Frame { return Frame{mid, end, long, regs} }

// P11.1: the chapter's numbers.
func TestNumbers(t *testing.T) {
	if got := []int{Runs, model.Done, model.Again, model.Failed, model.Bad, Stale}; !slices.Equal(got, []int{0, 1, 2, 3, 4, 5}) {
		t.Errorf("what a try is: %v", got)
	}
	if !sameTry(Try{}, Try{Kind: Runs}) {
		t.Error("a try runs at first")
	}
}

// P11.2: the chapter's example, and that of the whole.
func TestExamples(t *testing.T) {
	c := steps(load(0, 1))
	for _, record := range []api.Record{{Owner: 1}, {Version: 7}} {
		wantStep(t, begun(t, c), c, live(5, 6), []api.Record{{}, record}, at(0, regsOf()).ended(Stale, 0))
	}
}

// rightCodes are some of each form, from no step to as many as there may be.
func rightCodes() [][]code.Step {
	deep := retries(1)
	for range 6 {
		deep = choose(deep, retries(1))
	}
	return [][]code.Step{
		retries(1), retries(24), steps(fail(0)), steps(fail(255)), steps(load(0, 0)), steps(load(7, 63)), steps(store(63, num(1))), sets(24),
		steps(set(7, longest(0))), steps(skip(1, reg(7)), retry), join(steps(skip(23, num(0))), sets(23)), deep,
		choose(retries(1), retries(22)), choose(retries(22), retries(1)), join(steps(skip(1, num(0))), choose(retries(1), sets(2))),
	}
}

// wrongCodes have each error of layer 8's Check.
func wrongCodes() [][]code.Step {
	deep := retries(1)
	for range 7 {
		deep = choose(deep, retries(1))
	}
	all := [][]code.Step{
		retries(25), sets(25), retries(1 << 12), deep, join(sets(1), deep),
		steps(either(1, 1)), steps(either(1, 1), retry), steps(store(0, num(1)), skip(1, num(1))), choose(steps(skip(1, num(0))), retries(1)),
	}
	for _, n := range []int{-1, 8, 64, turn, math.MinInt, math.MaxInt} {
		for _, s := range steps(load(n, 0), set(n, num(1)), code.Step{Do: n}, code.Step{Do: code.Retry, A: n}, code.Step{Do: code.Store, B: n, Term: num(1)}) {
			all = append(all, steps(s), steps(set(0, num(1)), s))
		}
	}
	for _, n := range []int{-1, 64, turn, math.MinInt, math.MaxInt} {
		all = append(all, steps(load(0, n)), steps(store(n, num(1))), steps(skip(n, num(0)), retry), steps(either(n, 1), retry, retry), steps(either(1, n), retry, retry))
	}
	for _, x := range [][]term.Op{nil, {{Kind: term.Cell}}, {not}, {{Kind: term.Reg, N: 8}}, num(greatest + 1), slices.Concat(num(1), num(1))} {
		all = append(all, steps(set(0, x)), steps(store(0, x)), steps(skip(1, x), retry))
	}
	return append(all, steps(code.Step{}), steps(fail(-1)), steps(fail(256)), steps(skip(0, num(0))), steps(either(0, 1), retry))
}

// P11.1: at the beginning, of each who and each snap.
func TestBegin(t *testing.T) {
	for _, c := range append(rightCodes(), nil, []code.Step{}) {
		for w := 1; w <= 8; w++ {
			for _, s := range []int{0, 1, snap, api.MaxClock - 1, api.MaxClock} {
				want := Try{Who: w, Snap: s, Regs: make([]int, 8)}
				if len(c) == 0 {
					want.Kind = model.Done
				}
				if x, e := Begin(c, w, s); e != api.OK || !sameTry(x, want) {
					t.Errorf("Begin(%v, %d, %d): %+v, %d", brief(c), w, s, x, e)
				}
			}
		}
	}
}

// P11.1, R2: what is refused, and what is answered beside the error.
func TestBeginRefused(t *testing.T) {
	refused := func(c []code.Step, w, s int) {
		t.Helper()
		if x, e := Begin(c, w, s); e != api.ErrArg || !sameTry(x, Try{}) {
			t.Errorf("Begin(%v, %d, %d): %+v, %d", brief(c), w, s, x, e)
		}
	}
	whos := []int{0, 9, -1, -8, 10, turn + 1, math.MinInt, math.MaxInt}
	snaps := []int{-1, api.MaxClock + 1, turn, -api.MaxClock, math.MinInt, math.MaxInt}
	for _, c := range wrongCodes() {
		if code.Check(c) == api.OK {
			t.Fatalf("%v is a code", brief(c))
		}
		refused(c, 1, 0)
		refused(c, 8, api.MaxClock)
		refused(c, 0, 0)
		refused(c, 1, -1)
	}
	for _, c := range append(rightCodes(), nil) {
		for _, w := range whos {
			refused(c, w, 0)
			refused(c, w, -1)
		}
		for _, s := range snaps {
			refused(c, 1, s)
			refused(c, 8, s)
		}
	}
}

// wrongHeaps are none.
func wrongHeaps() [][]api.Cell {
	return [][]api.Cell{
		nil, {}, append(full(), api.Cell{}), append(full(), live(1)...), make([]api.Cell, 1<<10),
		{{Value: 1}}, append(live(5), api.Cell{Value: -1}), live(greatest + 1), live(5, least-1), live(math.MinInt), live(5, math.MaxInt), live(turn),
	}
}

// wrongTables are none.
func wrongTables() [][]api.Record {
	return [][]api.Record{
		nil, {}, make([]api.Record, 17), make([]api.Record, 1<<10), table(-1), table(0, api.MaxClock+1), table(turn), table(0, math.MinInt), table(math.MaxInt),
		{{Owner: -1}}, {{Owner: 9}}, {{}, {Owner: turn + 1}}, {{}, {Owner: math.MinInt}}, {{Version: 3, Owner: math.MaxInt}},
	}
}

// busy is of a first part that is run, with all that a try has.
func busy() []code.Step {
	return join(steps(load(1, 5), store(3, plus(1, 1))), choose(join(steps(load(2, 0), set(4, num(9)), store(0, num(8))), sets(2)), sets(3)), sets(2))
}

// endings are codes that end in each way, on usual and free, all of them but Done
// with an Either's first part being run.
func endings() map[int][]code.Step {
	ahead := steps(load(1, 5), store(3, plus(1, 1)), set(6, num(2)))
	return map[int][]code.Step{
		model.Done:   join(ahead, choose(retries(1), sets(2))),
		model.Again:  join(ahead, choose(retries(1), retries(1))),
		model.Failed: join(ahead, choose(steps(store(0, num(1)), fail(77)), sets(1))),
		model.Bad:    join(ahead, choose(steps(store(0, num(1)), load(0, 4)), sets(1))),
		Stale:        join(ahead, choose(steps(store(0, num(1)), load(0, 2)), sets(1))),
	}
}

// ends is a try that has ended so.
func ends(t *testing.T, kind int) ([]code.Step, Try) {
	t.Helper()
	c, r := endings()[kind], free()
	if kind == Stale {
		r[2].Version = snap + 1
	}
	x, _, e := Run(begun(t, c), c, usual(), r)
	if e != api.OK || x.Kind != kind {
		t.Fatalf("Run of %v: %+v, %d, want the kind %d", c, x, e, kind)
	}
	return c, x
}

func wantRefused(t *testing.T, x Try, c []code.Step, h []api.Cell, r []api.Record) {
	t.Helper()
	was := tryCopy(x)
	if y, e := Step(x, c, h, r); e != api.ErrArg || !sameTry(y, was) || !sameTry(x, was) {
		t.Errorf("Step of %+v in %v on %v, %v: %+v, %d", was, brief(c), brief(h), r, y, e)
	}
}

func wantRunRefused(t *testing.T, x Try, c []code.Step, h []api.Cell, r []api.Record) {
	t.Helper()
	was := tryCopy(x)
	if y, n, e := Run(x, c, h, r); e != api.ErrArg || n != 0 || !sameTry(y, was) || !sameTry(x, was) {
		t.Errorf("Run of %+v in %v on %v, %v: %+v, %d, %d", was, brief(c), brief(h), r, y, n, e)
	}
}

// P11.2, P11.3: heaps and tables that are none, at the beginning and on the way.
func TestRefused(t *testing.T) {
	for _, c := range [][]code.Step{retries(1), steps(fail(5)), steps(set(0, num(1))), steps(load(0, 9)), busy()} {
		for n := range min(len(c), 6) {
			x := after(t, n, c, usual(), free())
			for _, h := range wrongHeaps() {
				wantRefused(t, x, c, h, free())
				wantRunRefused(t, x, c, h, free())
				wantRefused(t, x, c, h, nil)
			}
			for _, r := range wrongTables() {
				wantRefused(t, x, c, usual(), r)
				wantRunRefused(t, x, c, usual(), r)
			}
			wantRunRefused(t, x, c, nil, nil)
			wantStep(t, x, c, make([]api.Cell, 64), make([]api.Record, 16), onDead(x, c))
		}
	}
}

// onDead is what stands behind a step on a heap whose cells are not live.
func onDead(x Try, c []code.Step) Try {
	y, _ := Step(x, c, usual(), free())
	if s := c[x.Pc]; s.Do == code.Load {
		return x.ended(model.Bad, s.B)
	} else if s.Do == code.Store {
		return x.ended(model.Bad, s.A)
	}
	return y
}

// P11.2: of what does not run Step tells ErrArg. P11.3: Run has no step to do then,
// whatever heap and table there are.
func TestEndedTries(t *testing.T) {
	for kind := model.Done; kind <= Stale; kind++ {
		c, x := ends(t, kind)
		wantRefused(t, x, c, usual(), free())
		wantRefused(t, x, c, nil, free())
		wantRefused(t, x, c, usual(), nil)
		for _, h := range [][]api.Cell{usual(), full(), nil} {
			for _, r := range [][]api.Record{free(), nil} {
				if y, n, e := Run(x, c, h, r); e != api.OK || n != 0 || !sameTry(y, x) {
					t.Errorf("Run of %+v: %+v, %d, %d", x, y, n, e)
				}
			}
		}
	}
	for _, c := range [][]code.Step{nil, {}} {
		x := begun(t, c)
		wantRefused(t, x, c, usual(), free())
		if y, n, e := Run(x, c, usual(), free()); e != api.OK || n != 0 || !sameTry(y, x) || y.Kind != model.Done {
			t.Errorf("Run of no step: %+v, %d, %d", y, n, e)
		}
	}
}

// P11.2: Loads of each register and each cell, with tables of each length: the
// cell's record is at the place that is left over.
func TestLoads(t *testing.T) {
	h := full()
	for n := 1; n <= 16; n++ {
		var r []api.Record
		for i := range n {
			r = append(r, api.Record{Version: api.MaxClock - 16 + i})
		}
		for cell := range 64 {
			c := steps(load(cell%8, cell), retry)
			x, _ := Begin(c, who, api.MaxClock)
			want := at(1, regsOf()).saw(has(cell, api.MaxClock-16+cell%n, 100+cell))
			want.Snap = api.MaxClock
			want.Regs[cell%8] = 100 + cell
			wantStep(t, x, c, h, r, want)
		}
	}
	for r := range 8 {
		c := steps(load(r, 0))
		for _, n := range []int{least, least + 1, -1, 0, 1, greatest - 1, greatest} {
			want := at(1, regsOf()).saw(has(0, 4, n)).ended(model.Done, 0)
			want.Regs[r] = n
			wantStep(t, begun(t, c), c, live(n, 8), free(), want)
		}
	}
}

// P11.2: a record that is held, by whomever, or is newer than Snap.
func TestStale(t *testing.T) {
	c := steps(load(3, 1), retry)
	for w := 1; w <= 8; w++ {
		for _, s := range []int{0, 1, snap, api.MaxClock - 1, api.MaxClock} {
			for _, version := range []int{0, s - 1, s, s + 1, api.MaxClock} {
				for owner := 0; owner <= 8 && 0 <= version && version <= api.MaxClock; owner++ {
					x, _ := Begin(c, w, s)
					want := Try{Who: w, Snap: s, Regs: regsOf(), Kind: Stale}
					if owner == 0 && version <= s {
						want = Try{Who: w, Snap: s, Pc: 1, Regs: regsOf(0, 0, 0, 9), Reads: []api.Read{has(1, version, 9)}}
					}
					wantStep(t, x, c, live(5, 9), []api.Record{{Version: api.MaxClock, Owner: 3}, {Version: version, Owner: owner}}, want)
				}
			}
		}
	}
}

// hard are tables of which no record may be read as of snap.
func hard() [][]api.Record {
	return [][]api.Record{
		table(7, 7), table(api.MaxClock), {{Owner: who}}, {{Owner: 1}, {Owner: 8}, {Version: 6, Owner: 5}}, {{Version: 7, Owner: who}}, {{Version: 9}, {Owner: who}, {Version: 7}},
	}
}

// P11.2: of what the log has, of what was read, and of what does not ask for a
// record, none matters.
func TestRecordsThatDoNotMatter(t *testing.T) {
	for _, r := range hard() {
		c := steps(store(1, num(40)), load(3, 1), load(4, 1), set(5, reg(4)), store(0, reg(3)), load(6, 0), skip(1, num(1)), retry)
		x := begun(t, c)
		x = wantStep(t, x, c, live(5, 9), r, at(1, regsOf()).wrote(put(1, 40)))
		x = wantStep(t, x, c, live(5, 9), r, at(2, regsOf(0, 0, 0, 40)).wrote(put(1, 40)))
		x = wantStep(t, x, c, live(5, 9), r, at(3, regsOf(0, 0, 0, 40, 40)).wrote(put(1, 40)))
		x = wantStep(t, x, c, live(5, 9), r, at(4, regsOf(0, 0, 0, 40, 40, 40)).wrote(put(1, 40)))
		x = wantStep(t, x, c, live(5, 9), r, at(5, regsOf(0, 0, 0, 40, 40, 40)).wrote(put(1, 40), put(0, 40)))
		x = wantStep(t, x, c, live(5, 9), r, at(6, regsOf(0, 0, 0, 40, 40, 40, 40)).wrote(put(1, 40), put(0, 40)))
		x = wantStep(t, x, c, live(5, 9), r, at(7, regsOf(0, 0, 0, 40, 40, 40, 40)).wrote(put(1, 40), put(0, 40)))
		wantStep(t, x, c, live(5, 9), r, at(7, regsOf(0, 0, 0, 40, 40, 40, 40)).wrote(put(1, 40), put(0, 40)).ended(model.Again, 0))

		d := steps(load(0, 1), load(1, 1), load(2, 0), retry)
		y := wantStep(t, begun(t, d), d, live(5, 9), table(4, 6), at(1, regsOf(9)).saw(has(1, 6, 9)))
		y = wantStep(t, y, d, live(50, 90), r, at(2, regsOf(9, 9)).saw(has(1, 6, 9)))
		wantStep(t, y, d, live(50, 90), r, at(2, regsOf(9, 9)).saw(has(1, 6, 9)).ended(Stale, 0))
	}
}

// P11.2: cells of one record, and of several.
func TestCellsOfRecords(t *testing.T) {
	c := steps(load(0, 1), load(1, 3), load(2, 2), load(3, 5), load(4, 0))
	one := at(1, regsOf(9)).saw(has(1, 2, 9))
	two := at(2, regsOf(9, 7)).saw(has(1, 2, 9), has(3, 2, 7))
	h := live(5, 9, 8, 7, 6, 4)
	x := wantStep(t, begun(t, c), c, h, table(3, 2), one)
	x = wantStep(t, x, c, h, table(3, 2), two)
	x = wantStep(t, x, c, h, table(3, 2), at(3, regsOf(9, 7, 8)).saw(has(1, 2, 9), has(3, 2, 7), has(2, 3, 8)))
	x = wantStep(t, x, c, h, table(3, 2), at(4, regsOf(9, 7, 8, 4)).saw(has(1, 2, 9), has(3, 2, 7), has(2, 3, 8), has(5, 2, 4)))
	wantStep(t, x, c, h, table(3, 2), at(5, regsOf(9, 7, 8, 4, 5)).saw(has(1, 2, 9), has(3, 2, 7), has(2, 3, 8), has(5, 2, 4), has(0, 3, 5)).ended(model.Done, 0))
	// The cell 3 has the record of 1 with two of them, and another one with three.
	x = wantStep(t, begun(t, c), c, h, table(3, 2), one)
	wantStep(t, x, c, h, []api.Record{{Version: 3}, {Version: 2, Owner: 1}}, one.ended(Stale, 0))
	wantStep(t, x, c, h, table(3, 7), one.ended(Stale, 0))
	wantStep(t, x, c, h, []api.Record{{Version: 2}, {Version: 9, Owner: 1}, {Version: 7}}, two)
	// Every cell's record is that of a table of one.
	for cell := range 64 {
		d := steps(load(0, cell))
		wantStep(t, begun(t, d), d, full(), table(7), at(0, regsOf()).ended(Stale, 0))
		wantStep(t, begun(t, d), d, full(), table(6), at(1, regsOf(100+cell)).saw(has(cell, 6, 100+cell)).ended(model.Done, 0))
	}
}

// P11.2: a cell that is not live, and one past the heap's end.
func TestBad(t *testing.T) {
	for _, h := range [][]api.Cell{usual(), {{}}, live(1), live(1, 2, 3), make([]api.Cell, 64), full()} {
		for cell := range 64 {
			isLive := cell < len(h) && h[cell].Live
			for _, s := range steps(load(3, cell), store(cell, num(9))) {
				for _, r := range append(hard(), table(6)) {
					if isLive && (s.Do == code.Store || r[0] == api.Record{Version: 6}) {
						continue
					}
					want := Try{Who: who, Snap: snap, Regs: regsOf(), Kind: Stale}
					if !isLive {
						want.Kind, want.Why = model.Bad, cell
					}
					c := steps(s)
					wantStep(t, begun(t, c), c, h, r, want)
				}
			}
		}
	}
}

// P11.2: that a cell is not live is asked ahead of the log and the reads.
func TestCellsThatGo(t *testing.T) {
	gone := []api.Cell{{Live: true, Value: 5}, {}}
	c := steps(load(2, 1), store(1, num(8)), load(3, 1))
	x := wantStep(t, begun(t, c), c, live(5, 9), free(), at(1, regsOf(0, 0, 9)).saw(has(1, 6, 9)))
	for _, h := range [][]api.Cell{gone, live(5)} {
		wantStep(t, x, c, h, free(), at(1, regsOf(0, 0, 9)).saw(has(1, 6, 9)).ended(model.Bad, 1))
		y := wantStep(t, x, c, live(5, 9), free(), at(2, regsOf(0, 0, 9)).saw(has(1, 6, 9)).wrote(put(1, 8)))
		wantStep(t, y, c, h, free(), at(2, regsOf(0, 0, 9)).saw(has(1, 6, 9)).wrote(put(1, 8)).ended(model.Bad, 1))
		d := steps(load(2, 1), load(3, 1))
		z := wantStep(t, begun(t, d), d, live(5, 9), free(), at(1, regsOf(0, 0, 9)).saw(has(1, 6, 9)))
		wantStep(t, z, d, h, free(), at(1, regsOf(0, 0, 9)).saw(has(1, 6, 9)).ended(model.Bad, 1))
	}
	// What comes is found.
	e := steps(set(0, num(1)), load(2, 1))
	x = wantStep(t, begun(t, e), e, gone, free(), at(1, regsOf(1)))
	wantStep(t, x, e, live(5, 3), free(), at(2, regsOf(1, 0, 3)).saw(has(1, 6, 3)).ended(model.Done, 0))
}

// P11.2: a Set's register and term at each end.
func TestSets(t *testing.T) {
	for r := range 8 {
		for _, n := range []int{least, -1, 0, 1, greatest} {
			c := steps(set(r, num(n)), set((r+3)%8, reg(r)), retry)
			first := at(1, regsOf())
			first.Regs[r] = n
			second := at(2, slices.Clone(first.Regs))
			second.Regs[(r+3)%8] = n
			x := wantStep(t, begun(t, c), c, live(5), free(), first)
			wantStep(t, x, c, live(5), free(), second)
		}
	}
	two := func(kind int) []term.Op { return append(slices.Concat(num(2), num(5)), term.Op{Kind: kind}) }
	for x, want := range map[int]int{term.Plus: 7, term.Less: -3, term.Times: 10, term.Equal: 0, term.Below: 1, term.Both: 1, term.Either: 1} {
		c := steps(set(5, two(x)))
		wantStep(t, begun(t, c), c, live(5), free(), at(1, regsOf(0, 0, 0, 0, 0, want)).ended(model.Done, 0))
	}
	c := steps(set(0, num(greatest)), set(0, plus(0, 1)), set(1, plus(0, -1)), set(2, longest(0)), set(3, longest(1)))
	want := at(5, regsOf(least, greatest, 1)).ended(model.Done, 0)
	if x := after(t, 5, c, live(5), free()); !sameTry(x, want) {
		t.Errorf("behind %v: %+v", c, x)
	}
}

// P11.2: a Store's cell and term at each end, and the same cell again.
func TestStores(t *testing.T) {
	for cell := range 64 {
		for _, n := range []int{least, -1, 0, 1, 100 + cell, greatest} {
			c := steps(store(cell, num(n)), store(cell, plus(0, n)), retry)
			for _, r := range append(hard(), free()) {
				x := wantStep(t, begun(t, c), c, full(), r, at(1, regsOf()).wrote(put(cell, n)))
				wantStep(t, x, c, full(), r, at(2, regsOf()).wrote(put(cell, n), put(cell, n)))
			}
		}
	}
	c := steps(store(0, longest(0)), store(1, longest(1)), load(3, 2), store(0, plus(3, -8)))
	want := at(4, regsOf(0, 0, 0, 7)).saw(has(2, 0, 7)).wrote(put(0, 1), put(1, 0), put(0, -1)).ended(model.Done, 0)
	if x := after(t, 4, c, live(5, 6, 7), free()); !sameTry(x, want) {
		t.Errorf("behind %v: %+v", c, x)
	}
	// As many as there may be.
	var many []code.Step
	want = at(24, regsOf()).ended(model.Done, 0)
	for i := range 24 {
		many = append(many, store(i%3, num(i)))
		want.Log.List = append(want.Log.List, put(i%3, i))
	}
	if x := after(t, 24, many, live(5, 6, 7), free()); !sameTry(x, want) {
		t.Errorf("behind %v: %+v", many, x)
	}
}

// P11.2: as many reads as there may be, and each of them once.
func TestManyReads(t *testing.T) {
	var c []code.Step
	want := at(24, regsOf()).ended(model.Done, 0)
	for i := range 24 {
		c = append(c, load(i%8, 63-i))
		want.Reads = append(want.Reads, has(63-i, free()[(63-i)%4].Version, 163-i))
		want.Regs[i%8] = 163 - i
	}
	if x := after(t, 24, c, full(), free()); !sameTry(x, want) {
		t.Errorf("behind %v: %+v", c, x)
	}
	for i := range c {
		c[i] = load(0, i%2)
	}
	want = at(24, regsOf(101)).saw(has(0, 4, 100), has(1, 6, 101)).ended(model.Done, 0)
	if x := after(t, 24, c, full(), free()); !sameTry(x, want) {
		t.Errorf("behind %v: %+v", c, x)
	}
}

// P11.2: loaded then stored, and stored then loaded.
func TestLoadsAndStores(t *testing.T) {
	c := steps(load(0, 1), store(1, plus(0, 1)), load(2, 1), store(1, num(50)), load(3, 1), retry)
	h, seen := live(5, 9), has(1, 6, 9)
	x := wantStep(t, begun(t, c), c, h, free(), at(1, regsOf(9)).saw(seen))
	x = wantStep(t, x, c, h, free(), at(2, regsOf(9)).saw(seen).wrote(put(1, 10)))
	x = wantStep(t, x, c, h, free(), at(3, regsOf(9, 0, 10)).saw(seen).wrote(put(1, 10)))
	x = wantStep(t, x, c, h, free(), at(4, regsOf(9, 0, 10)).saw(seen).wrote(put(1, 10), put(1, 50)))
	x = wantStep(t, x, c, h, free(), at(5, regsOf(9, 0, 10, 50)).saw(seen).wrote(put(1, 10), put(1, 50)))
	wantStep(t, x, c, h, free(), at(5, regsOf(9, 0, 10, 50)).saw(seen).wrote(put(1, 10), put(1, 50)).ended(model.Again, 0))
	// What is stored first is never read, whatever stands behind it.
	d := steps(store(1, num(3)), load(0, 1), load(1, 0), store(0, num(4)), load(2, 0))
	want := at(5, regsOf(3, 5, 4)).saw(has(0, 4, 5)).wrote(put(1, 3), put(0, 4)).ended(model.Done, 0)
	if x := after(t, 5, d, h, free()); !sameTry(x, want) {
		t.Errorf("behind %v: %+v", d, x)
	}
}

// P11.2: a Fail's A, wherever it stands.
func TestFail(t *testing.T) {
	for why := range 256 {
		c := steps(fail(why))
		wantStep(t, begun(t, c), c, live(5), hard()[0], at(0, regsOf()).ended(model.Failed, why))
		d := join(steps(set(0, num(3))), choose(steps(store(0, num(1)), fail(why)), sets(1)))
		want := at(3, regsOf(3), 1).wrote(put(0, 1)).marked(0).framed(frame(4, 5, 0, regsOf(3)))
		wantStep(t, after(t, 3, d, live(5), free()), d, live(5), free(), want.ended(model.Failed, why))
	}
}

// P11.2: an Either, of each A and B.
func TestEither(t *testing.T) {
	for first := 1; first <= 22; first++ {
		for next := 1; first+next <= 23; next++ {
			c := choose(retries(first), retries(next))
			x := wantStep(t, begun(t, c), c, live(5), hard()[0], at(1, regsOf(), 1).marked(0).framed(frame(first+1, first+next+1, 0, regsOf())))
			x = wantStep(t, x, c, live(5), hard()[0], at(first+1, regsOf(), 2))
			wantStep(t, x, c, live(5), hard()[0], at(first+1, regsOf(), 2).ended(model.Again, 0))
		}
	}
	c := join(steps(load(1, 5), store(3, plus(1, 1))), choose(sets(1), sets(1)), choose(sets(2), sets(3)))
	here := at(2, regsOf(0, 55)).saw(has(5, 6, 55)).wrote(put(3, 56))
	x := wantStep(t, after(t, 2, c, usual(), free()), c, usual(), free(), Try{Who: who, Snap: snap, Pc: 3, Regs: here.Regs, Path: []int{1}}.saw(here.Reads...).wrote(here.Log.List...).marked(1).framed(frame(4, 5, 0, here.Regs)))
	x = wantStep(t, x, c, usual(), free(), at(5, here.Regs, 1).saw(here.Reads...).wrote(here.Log.List...))
	wantStep(t, x, c, usual(), free(), at(6, here.Regs, 1, 1).saw(here.Reads...).wrote(here.Log.List...).marked(1).framed(frame(8, 11, 1, here.Regs)))
}

// P11.2: a first part that stored, loaded and set, and ends as Again.
func TestUndone(t *testing.T) {
	first := steps(load(1, 0), set(2, num(4)), store(2, num(30)), store(1, num(31)), retry)
	next := steps(load(4, 1), load(5, 2), load(6, 0), store(1, plus(1, 1)))
	c := join(steps(load(0, 3), store(1, num(20)), set(1, num(21))), choose(first, next), sets(1))
	ahead := at(8, regsOf(-1, 21, 4), 1)
	x := after(t, 8, c, usual(), free())
	inFirst := ahead.saw(has(3, 5, -1), has(0, 4, 10)).wrote(put(1, 20), put(2, 30), put(1, 31)).marked(1).framed(frame(9, 13, 0, regsOf(-1, 21)))
	inFirst.Regs[1] = 10
	if !sameTry(x, inFirst) {
		t.Fatalf("in the first part: %+v, want %+v", x, inFirst)
	}
	both := []api.Read{has(3, 5, -1), has(0, 4, 10)}
	x = wantStep(t, x, c, usual(), free(), at(9, regsOf(-1, 21), 2).saw(both...).wrote(put(1, 20)))
	// Of what was stored ahead the log tells, of what was undone the heap does, and
	// what was loaded was seen.
	x = wantStep(t, x, c, usual(), free(), at(10, regsOf(-1, 21, 0, 0, 20), 2).saw(both...).wrote(put(1, 20)))
	wantStep(t, x, c, usual(), hard()[0], at(10, regsOf(-1, 21, 0, 0, 20), 2).saw(both...).wrote(put(1, 20)).ended(Stale, 0))
	all := append(both, has(2, 0, 7))
	x = wantStep(t, x, c, usual(), free(), at(11, regsOf(-1, 21, 0, 0, 20, 7), 2).saw(all...).wrote(put(1, 20)))
	x = wantStep(t, x, c, live(1, 2, 3, 4, 5, 6), hard()[0], at(12, regsOf(-1, 21, 0, 0, 20, 7, 10), 2).saw(all...).wrote(put(1, 20)))
	x = wantStep(t, x, c, usual(), free(), at(13, regsOf(-1, 21, 0, 0, 20, 7, 10), 2).saw(all...).wrote(put(1, 20), put(1, 22)))
	wantStep(t, x, c, usual(), free(), at(14, regsOf(-1, 21, 0, 0, 20, 7, 10), 2).saw(all...).wrote(put(1, 20), put(1, 22)).ended(model.Done, 0))
}

// P11.2: what is undone with Eithers in it, that were kept and that were not: the
// frame behind is that of the Either around it.
func TestUndoneWithEithersInIt(t *testing.T) {
	kept := choose(steps(store(1, num(1))), sets(1))
	other := choose(steps(store(2, num(2)), retry), steps(store(3, num(3))))
	inner := choose(join(kept, other, steps(set(5, num(5)), retry)), steps(set(6, num(6))))
	c := join(choose(join(steps(set(0, num(9))), inner, retries(1)), sets(1)), sets(1))
	outer := frame(len(c)-2, len(c)-1, 0, regsOf())
	// Two Eithers and a Set, two steps of kept, and five behind that.
	x := after(t, 10, c, full(), free())
	want := at(11, regsOf(9, 0, 0, 0, 0, 5), 1, 1, 1, 2).wrote(put(1, 1), put(3, 3)).marked(0, 0).framed(outer, frame(12, 13, 1, regsOf(9)))
	if !sameTry(x, want) {
		t.Fatalf("in the first part of the inner one: %+v, want %+v", x, want)
	}
	x = wantStep(t, x, c, full(), free(), at(12, regsOf(9), 1, 2).marked(0).framed(outer))
	x = wantStep(t, x, c, full(), free(), at(13, regsOf(9, 0, 0, 0, 0, 0, 6), 1, 2).marked(0).framed(outer))
	x = wantStep(t, x, c, full(), free(), at(14, regsOf(), 2))
	x = wantStep(t, x, c, full(), free(), at(15, regsOf(), 2))
	wantStep(t, x, c, full(), free(), at(16, regsOf(), 2).ended(model.Done, 0))
}

// nested is Eithers in one another, all in first parts: each stores its number
// ahead of the next one.
func nested(depth int, middle []code.Step) []code.Step {
	c := middle
	for n := depth; n >= 1; n-- {
		c = choose(join(steps(store(n, num(n))), c), sets(1))
	}
	return c
}

// P11.2: Eithers in first parts, as deep as they may be: all of them are settled
// at once, at the code's end and ahead of other steps.
func TestFirstPartsInOneAnother(t *testing.T) {
	for depth := 1; depth <= 6; depth++ {
		for behind := range 3 {
			c := join(nested(depth, steps(set(5, num(1)))), sets(behind))
			end := 3*depth + 1
			x := begun(t, c)
			want := at(0, regsOf())
			for n := 1; n <= depth; n++ {
				mid := 2*depth + 1 + depth - n
				want.Pc, want.Path = want.Pc+1, append(want.Path, 1)
				want.Log.Marks = append(want.Log.Marks, n-1)
				want.Frames = append(want.Frames, frame(mid, mid+1, n-1, regsOf()))
				x = wantStep(t, x, c, full(), free(), want)
				want.Pc, want.Log.List = want.Pc+1, append(want.Log.List, put(n, n))
				x = wantStep(t, x, c, full(), free(), want)
			}
			// Each End is the Mid of the one around it.
			want = at(end, regsOf(0, 0, 0, 0, 0, 1), want.Path...).wrote(want.Log.List...)
			if behind == 0 {
				want.Kind = model.Done
			}
			x = wantStep(t, x, c, full(), free(), want)
			if x.Pc+behind != len(c) {
				t.Errorf("Pc %d, with %d steps behind", x.Pc, behind)
			}
		}
	}
}

// P11.2: a Retry in the innermost first part, and in each second part.
func TestRetriesOutOfOneAnother(t *testing.T) {
	for depth := 1; depth <= 6; depth++ {
		// Each first part stores once; those of an odd depth set a register, too.
		c := retries(1)
		rests := []Try{at(0, regsOf())}
		pc, here := 0, at(0, regsOf())
		for n := depth; n >= 1; n-- {
			first := steps(store(n, num(n)))
			if n%2 == 1 {
				first = append(first, set(n, num(n)))
			}
			c = choose(join(first, c), retries(1))
		}
		for n := 1; n <= depth; n++ {
			here.Log.List = append(here.Log.List, put(n, n))
			pc += 2
			if n%2 == 1 {
				pc++
				here.Regs = slices.Clone(here.Regs)
				here.Regs[n] = n
			}
			rests = append(rests, tryCopy(here))
		}
		// The Retries of the second parts stand behind that of the innermost one.
		frames, marks := []Frame{}, []int{}
		for n := 1; n <= depth; n++ {
			mid := pc + 1 + depth - n
			frames, marks = append(frames, frame(mid, mid+1, n-1, rests[n-1].Regs)), append(marks, n-1)
		}
		ones := slices.Repeat([]int{1}, depth)
		x := after(t, pc, c, full(), free())
		want := at(pc, rests[depth].Regs, ones...).wrote(rests[depth].Log.List...).marked(marks...).framed(frames...)
		if !sameTry(x, want) {
			t.Fatalf("in the innermost part: %+v, want %+v", x, want)
		}
		for n := depth - 1; n >= 0; n-- {
			path := append(slices.Clone(ones[:n]), 2)
			want = at(pc+depth-n, rests[n].Regs, path...).wrote(rests[n].Log.List...).marked(marks[:n]...).framed(frames[:n]...)
			x = wantStep(t, x, c, full(), free(), want)
		}
		wantStep(t, x, c, full(), free(), at(len(c)-1, regsOf(), 2).ended(model.Again, 0))
	}
}

// P11.2: Eithers in second parts, as deep as they may be.
func TestSecondPartsInOneAnother(t *testing.T) {
	for depth := 1; depth <= 6; depth++ {
		c := steps(store(9, num(9)))
		for n := depth; n >= 1; n-- {
			c = choose(steps(store(n, num(n)), retry), c)
		}
		x := begun(t, c)
		want := at(0, regsOf())
		for n := 1; n <= depth; n++ {
			pc := 3 * (n - 1)
			path := slices.Repeat([]int{2}, n-1)
			in := at(pc+1, regsOf(), append(slices.Clone(path), 1)...).marked(0).framed(frame(pc+3, len(c), n-1, regsOf()))
			x = wantStep(t, x, c, full(), free(), in)
			in.Pc = pc + 2
			x = wantStep(t, x, c, full(), free(), in.wrote(put(n, n)))
			want = at(pc+3, regsOf(), append(path, 2)...)
			x = wantStep(t, x, c, full(), free(), want)
		}
		want.Pc++
		wantStep(t, x, c, full(), free(), want.wrote(put(9, 9)).ended(model.Done, 0))
	}
}

// P11.2: a second part that ends where the first part around it does is settled.
func TestSecondPartAtTheEndOfAFirst(t *testing.T) {
	inner := choose(retries(1), steps(set(0, num(1))))
	for behind := range 2 {
		c := join(choose(inner, sets(2)), sets(behind))
		want := at(6, regsOf(1), 1, 2)
		if behind == 0 {
			want.Kind = model.Done
		}
		x := wantStep(t, after(t, 3, c, live(5), free()), c, live(5), free(), want)
		if x.Pc+behind != len(c) {
			t.Errorf("Pc %d, with %d steps behind", x.Pc, behind)
		}
	}
}

// P11.2: a Skip whose term tells 0 leaves out as many steps as it says, up to the
// end of its part; one whose term tells anything else leaves out none.
func TestSkips(t *testing.T) {
	others := []int{1, -1, 2, least, greatest, turn - 1<<31 - 1}
	for n := 1; n <= 23; n++ {
		for behind := 0; n+behind <= 23; behind++ {
			c := join(steps(skip(n, reg(0))), sets(n+behind))
			want := at(n+1, regsOf())
			if behind == 0 {
				want.Kind = model.Done
			}
			wantStep(t, begun(t, c), c, live(5), hard()[0], want)
		}
		for _, x := range [][]term.Op{num(0), longest(1), append(num(1), not)} {
			c := join(steps(skip(n, x)), sets(23))
			want := at(n+1, regsOf())
			if n == 23 {
				want.Kind = model.Done
			}
			wantStep(t, begun(t, c), c, live(5), hard()[0], want)
		}
		for _, told := range others {
			c := join(steps(skip(n, num(told))), sets(23))
			wantStep(t, begun(t, c), c, live(5), hard()[0], at(1, regsOf()))
			d := join(steps(set(3, num(told)), skip(1, reg(3))), sets(1))
			wantStep(t, after(t, 1, d, live(5), free()), d, live(5), hard()[0], at(2, regsOf(0, 0, 0, told)))
		}
		c := join(steps(skip(n, longest(0))), sets(23))
		wantStep(t, begun(t, c), c, live(5), hard()[0], at(1, regsOf()))
	}
}

// P11.2: a Skip up to the end of a first part, and of a second one, is settled.
func TestSkipsToTheEndOfAPart(t *testing.T) {
	for n := 1; n <= 4; n++ {
		part := join(steps(skip(n, num(0))), sets(n))
		for behind := range 2 {
			kind := Runs
			if behind == 0 {
				kind = model.Done
			}
			c := join(choose(part, sets(2)), sets(behind))
			wantStep(t, after(t, 1, c, live(5), free()), c, live(5), free(), at(len(c)-behind, regsOf(), 1).ended(kind, 0))
			c = join(choose(retries(1), part), sets(behind))
			wantStep(t, after(t, 2, c, live(5), free()), c, live(5), free(), at(len(c)-behind, regsOf(), 2).ended(kind, 0))
			c = join(choose(choose(part, sets(1)), sets(2)), sets(behind))
			wantStep(t, after(t, 2, c, live(5), free()), c, live(5), free(), at(len(c)-behind, regsOf(), 1, 1).ended(kind, 0))
			c = join(choose(join(part, sets(1)), sets(2)), sets(behind))
			want := at(n+2, regsOf(), 1).marked(0).framed(frame(n+3, n+5, 0, regsOf()))
			wantStep(t, after(t, 1, c, live(5), free()), c, live(5), free(), want)
		}
	}
}

// P11.2: a Skip over an Either alone, with its first part, with some steps of a
// part, and with both: it has no frame then, and is not on the path.
func TestSkipsOverAnEither(t *testing.T) {
	for first := 1; first <= 4; first++ {
		for next := 1; next <= 4; next++ {
			for n := 1; n <= 1+first+next; n++ {
				c := join(steps(skip(n, num(0))), choose(sets(first), sets(next)), sets(1))
				x := wantStep(t, begun(t, c), c, live(5), free(), at(n+1, regsOf()))
				for pc := n + 2; pc < len(c); pc++ {
					x = wantStep(t, x, c, live(5), free(), at(pc, regsOf()))
				}
				wantStep(t, x, c, live(5), free(), at(len(c), regsOf()).ended(model.Done, 0))
				// In another one's first part it keeps that one's frame.
				d := choose(c, sets(1))
				want := at(n+2, regsOf(), 1).marked(0).framed(frame(len(c)+1, len(c)+2, 0, regsOf()))
				wantStep(t, after(t, 1, d, live(5), free()), d, live(5), free(), want)
			}
		}
	}
	// A Retry in what is left is one of the part that the Skip stands in.
	left := join(steps(skip(1, num(0))), choose(retries(1), sets(1)))
	x := after(t, 1, left, live(5), free())
	wantStep(t, x, left, live(5), free(), at(2, regsOf()).ended(model.Again, 0))
	c := choose(left, sets(1))
	wantStep(t, after(t, 2, c, live(5), free()), c, live(5), free(), at(5, regsOf(), 2))
	// An Either in what is left is run like any other.
	d := join(steps(skip(1, num(0))), choose(choose(retries(1), sets(1)), sets(1)))
	wantStep(t, after(t, 1, d, live(5), free()), d, live(5), free(), at(3, regsOf(), 1).marked(0).framed(frame(4, 5, 0, regsOf())))
}
