package model

import (
	"math"
	"slices"
	"testing"

	"handshaker/api"
	"handshaker/code"
	"handshaker/term"
)

const (
	least    = -api.MaxValue - 1
	greatest = api.MaxValue
	turn     = 1 << 32
)

var (
	retry = code.Step{Do: code.Retry}
	not   = term.Op{Kind: term.Not}
)

func num(n int) []term.Op { return []term.Op{{Kind: term.Const, N: n}} }
func reg(n int) []term.Op { return []term.Op{{Kind: term.Reg, N: n}} }

// plus is the register n, and k.
func plus(n, k int) []term.Op {
	return []term.Op{{Kind: term.Reg, N: n}, {Kind: term.Const, N: k}, {Kind: term.Plus}}
}

// longest is of as many operations as there may be: 1 of 0, and 0 of all others.
func longest(n int) []term.Op { return append(num(n), slices.Repeat([]term.Op{not}, 11)...) }

func load(reg, cell int) code.Step          { return code.Step{Do: code.Load, A: reg, B: cell} }
func set(reg int, x []term.Op) code.Step    { return code.Step{Do: code.Set, A: reg, Term: x} }
func store(cell int, x []term.Op) code.Step { return code.Step{Do: code.Store, A: cell, Term: x} }
func skip(n int, x []term.Op) code.Step     { return code.Step{Do: code.Skip, A: n, Term: x} }
func fail(why int) code.Step                { return code.Step{Do: code.Fail, A: why} }
func either(first, next int) code.Step      { return code.Step{Do: code.Either, A: first, B: next} }
func retries(n int) []code.Step             { return slices.Repeat(steps(retry), n) }
func steps(c ...code.Step) []code.Step      { return c }
func put(cell, value int) api.Write         { return api.Write{Cell: cell, Value: value} }
func puts(l ...api.Write) []api.Write       { return l }
func join(l ...[]code.Step) []code.Step     { return slices.Concat(l...) }
func regsOf(l ...int) []int                 { return append(l, make([]int, 8-len(l))...) }
func done(regs ...int) Out                  { return Out{Kind: Done, Regs: regsOf(regs...)} }
func (o Out) along(path ...int) Out         { o.Path = path; return o }
func (o Out) saw(cells ...int) Out          { o.Seen = cells; return o }
func (o Out) wrote(l ...api.Write) Out      { o.Writes = l; return o }
func choose(first, next []code.Step) []code.Step {
	return join(steps(either(len(first), len(next))), first, next)
}

// live are cells of these values; dead ones may stand behind them.
func live(values ...int) []api.Cell {
	var h []api.Cell
	for _, n := range values {
		h = append(h, api.Cell{Live: true, Value: n})
	}
	return h
}

// usual has the live cells 0 to 3, and 5; 4 and 6 are none, and 7 is past its end.
func usual() []api.Cell {
	return append(live(10, 0, 7, -1), api.Cell{}, api.Cell{Live: true, Value: 55}, api.Cell{})
}

// full is the longest heap, of live cells.
func full() []api.Cell {
	var h []api.Cell
	for n := range 64 {
		h = append(h, api.Cell{Live: true, Value: 100 + n})
	}
	return h
}

func sameOut(o, other Out) bool {
	return o.Kind == other.Kind && o.Why == other.Why && slices.Equal(o.Regs, other.Regs) && slices.Equal(o.Path, other.Path) &&
		slices.Equal(o.Seen, other.Seen) && slices.Equal(o.Writes, other.Writes)
}

func sameStep(s, other code.Step) bool {
	return s.Do == other.Do && s.A == other.A && s.B == other.B && slices.Equal(s.Term, other.Term)
}

func copyOf(c []code.Step) []code.Step {
	c = slices.Clone(c)
	for i := range c {
		c[i].Term = slices.Clone(c[i].Term)
	}
	return c
}

// with is the heap with these writes.
func with(h []api.Cell, l []api.Write) []api.Cell {
	h = slices.Clone(h)
	for _, w := range l {
		h[w.Cell].Value = w.Value
	}
	return h
}

// brief keeps what is long out of the tests' messages.
func brief[T any](l []T) []T { return l[:min(len(l), 24)] }

func wantRun(t *testing.T, c []code.Step, h []api.Cell, want Out) {
	t.Helper()
	was := slices.Clone(h)
	o, after, e := Run(c, h)
	if e != api.OK || !sameOut(o, want) {
		t.Errorf("Run of %v on %v: %+v, %d, want %+v", c, brief(h), o, e, want)
	}
	if !slices.Equal(after, with(h, want.Writes)) {
		t.Errorf("Run of %v on %v: the heap %v", c, brief(h), brief(after))
	}
	if !slices.Equal(h, was) {
		t.Errorf("Run of %v: the heap %v has become %v", c, brief(was), brief(h))
	}
}

func wantRefused(t *testing.T, c []code.Step, h []api.Cell) {
	t.Helper()
	o, after, e := Run(c, h)
	if e != api.ErrArg || !sameOut(o, Out{}) || !slices.Equal(after, h) {
		t.Errorf("Run of %d steps %v on %d cells %v: %+v, %v, %d", len(c), brief(c), len(h), brief(h), o, brief(after), e)
	}
}

// P10.1: the chapter's numbers.
func TestNumbers(t *testing.T) {
	if got := []int{Done, Again, Failed, Bad}; !slices.Equal(got, []int{1, 2, 3, 4}) {
		t.Errorf("how a part ends: %v", got)
	}
}

// P10.1: the chapter's example, and those of the whole.
func TestExamples(t *testing.T) {
	wantRun(t, choose(retries(1), steps(store(0, num(3)))), live(5), done().along(2).wrote(put(0, 3)))
	wantRun(t, steps(load(0, 0), store(0, plus(0, 1))), live(5), done(5).saw(0).wrote(put(0, 6)))
	wantRun(t, retries(1), live(5), Out{Kind: Again})
}

// P10.1
func TestNoStep(t *testing.T) {
	for _, c := range [][]code.Step{nil, {}} {
		wantRun(t, c, live(5), done())
		wantRun(t, c, []api.Cell{{}}, done())
		wantRun(t, c, usual(), done())
		wantRun(t, c, full(), done())
	}
}

// wrongCodes have each error of layer 8's Check.
func wrongCodes() [][]code.Step {
	deep := retries(1)
	for range 7 {
		deep = choose(deep, retries(1))
	}
	all := [][]code.Step{
		retries(25), retries(1 << 12), slices.Repeat(steps(store(0, num(1))), 25),
		deep, join(steps(store(0, num(1))), deep),
		steps(either(1, 1)), steps(either(1, 1), retry), steps(store(0, num(1)), skip(1, num(1))), choose(steps(skip(1, num(0))), retries(1)),
	}
	for _, n := range []int{-1, 8, 64, turn, turn + 1, math.MinInt, math.MaxInt} {
		for _, s := range steps(load(n, 0), set(n, num(1)), code.Step{Do: n}, code.Step{Do: code.Retry, A: n}, code.Step{Do: code.Store, B: n, Term: num(1)}) {
			all = append(all, steps(s), steps(store(0, num(1)), s))
		}
	}
	for _, n := range []int{-1, 64, turn, math.MinInt, math.MaxInt} {
		all = append(all, steps(load(0, n)), steps(store(n, num(1))), steps(skip(n, num(0)), retry), steps(either(n, 1), retry, retry), steps(either(1, n), retry, retry))
	}
	for _, n := range []int{-1, 256, turn, math.MinInt, math.MaxInt} {
		all = append(all, steps(fail(n)))
	}
	for _, x := range [][]term.Op{nil, {{Kind: term.Cell}}, {not}, {{Kind: term.Reg, N: 8}}, num(greatest + 1), slices.Concat(num(1), num(1)), {{Kind: 12}}} {
		all = append(all, steps(set(0, x)), steps(store(0, x)), steps(skip(1, x), retry), steps(retry, set(0, x)))
	}
	return append(all, steps(code.Step{Do: code.Retry, Term: num(1)}), steps(skip(0, num(0))), steps(either(0, 1), retry))
}

// wrongHeaps are none.
func wrongHeaps() [][]api.Cell {
	return [][]api.Cell{
		nil, {}, append(full(), api.Cell{}), append(full(), live(1)...), make([]api.Cell, 1<<10),
		{{Value: 1}}, append(live(5), api.Cell{Value: -1}), live(greatest + 1), live(5, least-1), live(math.MinInt), live(5, math.MaxInt), live(turn),
	}
}

// P10.1: what is refused, and what is answered beside the error.
func TestRefused(t *testing.T) {
	right := [][]code.Step{nil, retries(1), retries(24), steps(fail(5)), steps(load(0, 63)), steps(load(0, 0), store(0, plus(0, 1)))}
	for _, c := range wrongCodes() {
		if code.Check(c) == api.OK {
			t.Fatalf("%v is a code", brief(c))
		}
		wantRefused(t, c, live(5))
		wantRefused(t, c, full())
		for _, h := range wrongHeaps() {
			wantRefused(t, c, h)
		}
	}
	for _, c := range right {
		for _, h := range wrongHeaps() {
			wantRefused(t, c, h)
		}
	}
}

// P10.1: Loads of each register and each cell.
func TestLoads(t *testing.T) {
	h := full()
	for r := range 8 {
		for cell := range 64 {
			want := regsOf()
			want[r] = 100 + cell
			wantRun(t, steps(load(r, cell)), h, Out{Kind: Done, Regs: want, Seen: []int{cell}})
		}
	}
	for _, n := range []int{least, least + 1, -1, 0, 1, greatest - 1, greatest} {
		wantRun(t, steps(load(0, 0), store(1, reg(0))), live(n, 8), done(n).saw(0).wrote(put(1, n)))
	}
}

// P10.1: Sets of each register, by terms of each kind of operation.
func TestSets(t *testing.T) {
	for r := range 8 {
		for _, n := range []int{least, -1, 0, 1, greatest} {
			want := regsOf()
			want[r] = n
			wantRun(t, steps(set(r, num(n))), live(5), Out{Kind: Done, Regs: want})
			other := (r + 3) % 8
			want = slices.Clone(want)
			want[other] = n
			wantRun(t, steps(set(r, num(n)), set(other, reg(r))), live(5), Out{Kind: Done, Regs: want})
		}
	}
	two := func(kind int) []term.Op { return append(slices.Concat(num(2), num(5)), term.Op{Kind: kind}) }
	wantRun(t, steps(set(0, two(term.Plus)), set(1, two(term.Less)), set(2, two(term.Times)), set(3, two(term.Equal)),
		set(4, two(term.Below)), set(5, two(term.Both)), set(6, two(term.Either)), set(7, append(num(0), not))), live(5), done(7, -3, 10, 0, 1, 1, 1, 1))
	wantRun(t, steps(set(0, num(greatest)), set(0, plus(0, 1)), set(1, plus(0, -1))), live(5), done(least, greatest))
	wantRun(t, steps(set(3, longest(0)), set(4, longest(1))), live(5), done(0, 0, 0, 1))
}

// P10.1: Stores in each cell, of each kind of value, and of the same value again.
func TestStores(t *testing.T) {
	h := full()
	for cell := range 64 {
		for _, n := range []int{least, -1, 0, 1, 100 + cell, greatest} {
			wantRun(t, steps(store(cell, num(n))), h, done().wrote(put(cell, n)))
		}
	}
	wantRun(t, steps(load(0, 0), store(0, reg(0))), live(5), done(5).saw(0).wrote(put(0, 5)))
	wantRun(t, steps(store(0, longest(0))), live(5), done().wrote(put(0, 1)))
}

// P10.1: registers are 0 at first, and each is its own.
func TestRegisters(t *testing.T) {
	for r := range 8 {
		wantRun(t, steps(store(0, plus(r, 40))), live(5), done().wrote(put(0, 40)))
	}
	var c []code.Step
	for r := range 8 {
		c = append(c, set(r, num(r+1)))
	}
	all := done(1, 2, 3, 4, 5, 6, 7, 8)
	wantRun(t, c, live(5), all)
	for r := range 8 {
		wantRun(t, append(c, store(0, reg(r))), live(5), all.wrote(put(0, r+1)))
	}
	wantRun(t, append(slices.Clone(c), load(3, 0), set(5, reg(3)), set(3, reg(0))), live(77), done(1, 2, 3, 1, 5, 77, 7, 8).saw(0))
}

// P10.1: a cell that is not live, and one past the heap's end.
func TestBad(t *testing.T) {
	for _, h := range [][]api.Cell{usual(), {{}}, live(1), live(1, 2, 3), make([]api.Cell, 64), full()} {
		for cell := range 64 {
			isLive := cell < len(h) && h[cell].Live
			for _, s := range steps(load(3, cell), store(cell, num(9))) {
				switch {
				case !isLive:
					wantRun(t, steps(s), h, Out{Kind: Bad, Why: cell})
					wantRun(t, steps(set(1, num(2)), s, fail(3)), h, Out{Kind: Bad, Why: cell})
				case s.Do == code.Load:
					wantRun(t, steps(s), h, done(0, 0, 0, h[cell].Value).saw(cell))
				default:
					wantRun(t, steps(s), h, done().wrote(put(cell, 9)))
				}
			}
		}
	}
	// What was done ahead of it is not to be told, but for what was seen.
	for cell, s := range map[int]code.Step{4: load(3, 4), 7: load(3, 7), 6: store(6, num(1)), 63: store(63, num(1))} {
		c := steps(load(1, 5), store(0, num(8)), load(2, 0), load(2, 1), s, store(2, num(3)), load(1, 2))
		wantRun(t, c, usual(), Out{Kind: Bad, Why: cell, Seen: []int{1, 5}})
	}
}

// P10.1: a Fail's A.
func TestFail(t *testing.T) {
	for why := range 256 {
		wantRun(t, steps(fail(why)), live(5), Out{Kind: Failed, Why: why})
		wantRun(t, steps(load(1, 0), store(0, num(3)), fail(why), fail(7), retry), live(5), Out{Kind: Failed, Why: why, Seen: []int{0}})
	}
}

// ending is a part of two steps, how it ends, and what it has seen.
type ending struct {
	part      []code.Step
	kind, why int
	seen      []int
}

func endings() []ending {
	return []ending{
		{steps(load(1, 1), store(2, num(30))), Done, 0, []int{1}},
		{steps(store(2, num(30)), retry), Again, 0, nil},
		{steps(store(2, num(30)), fail(9)), Failed, 9, nil},
		{steps(store(2, num(30)), store(4, num(1))), Bad, 4, nil},
		{steps(store(2, num(30)), load(1, 6)), Bad, 6, nil},
	}
}

// P10.1: each way that a part ends, alone, and in each part of an Either, with
// steps ahead of it and behind it.
func TestEachEndOfEachPart(t *testing.T) {
	ahead, behind := steps(load(0, 0)), steps(store(3, num(40)))
	for _, x := range endings() {
		alone := Out{Kind: x.kind, Why: x.why, Seen: x.seen}
		if x.kind == Done {
			alone.Regs, alone.Writes = regsOf(), puts(put(2, 30))
		}
		wantRun(t, x.part, usual(), alone)
		for _, y := range endings() {
			last, path := x, 1
			if x.kind == Again {
				last, path = y, 2
			}
			want := Out{Kind: last.kind, Why: last.why, Seen: append([]int{0}, last.seen...)}
			if want.Kind == Done {
				want.Regs, want.Path, want.Writes = regsOf(10), []int{path}, puts(put(2, 30), put(3, 40))
			}
			wantRun(t, join(ahead, choose(x.part, y.part), behind), usual(), want)
			wantBehind(t, join(ahead, choose(x.part, y.part)), want)
		}
	}
}

// wantBehind puts each way that a part ends behind a code that ends so, with what
// it wrote in the cell 3.
func wantBehind(t *testing.T, c []code.Step, want Out) {
	t.Helper()
	if want.Kind != Done {
		for _, y := range endings() {
			wantRun(t, join(c, y.part), usual(), want)
		}
		return
	}
	wantRun(t, c, usual(), Out{Kind: Done, Regs: want.Regs, Path: want.Path, Seen: want.Seen, Writes: puts(put(2, 30))})
	for _, y := range endings()[1:] {
		wantRun(t, join(c, y.part), usual(), Out{Kind: y.kind, Why: y.why, Seen: want.Seen})
	}
}

// P10.1: Eithers in first parts, as deep as they may be, of which the innermost
// ends as Done or as Again, and whose second parts can go on, or not.
func TestEithersInFirstParts(t *testing.T) {
	for deep := range 7 {
		for choice := range 1 << deep {
			c, kind := retries(1), Again
			var path []int
			for level := range deep {
				next := retries(1)
				if choice>>level&1 == 1 {
					next = steps(store(level, num(level)))
				}
				c = choose(c, next)
				switch {
				case kind == Done:
					path = append([]int{1}, path...)
				case choice>>level&1 == 1:
					kind, path = Done, []int{2}
				}
			}
			if kind == Again {
				wantRun(t, c, full(), Out{Kind: Again})
				continue
			}
			level := deep - len(path)
			wantRun(t, c, full(), done().along(path...).wrote(put(level, level)))
		}
		c := steps(store(5, num(6)))
		for range deep {
			c = choose(c, steps(fail(3)))
		}
		wantRun(t, c, full(), done().along(slices.Repeat([]int{1}, deep)...).wrote(put(5, 6)))
	}
}

// P10.1: Eithers in second parts, as deep as they may be, of which the first parts
// can't go on, till one can.
func TestEithersInSecondParts(t *testing.T) {
	for deep := 1; deep <= 6; deep++ {
		for first := range deep + 1 {
			c := retries(1)
			for level := range deep {
				part := retries(1)
				if level >= first {
					part = steps(store(level, num(level)))
				}
				c = choose(part, c)
			}
			// The outermost Either is of the level deep-1.
			want := done().along(1).wrote(put(deep-1, deep-1))
			if first == deep {
				want = Out{Kind: Again}
			}
			wantRun(t, c, full(), want)
		}
		for kept := range deep {
			c := steps(store(9, num(9)))
			for level := range deep {
				part := retries(1)
				if level == kept {
					part = steps(store(level, num(level)))
				}
				c = choose(part, c)
			}
			path := append(slices.Repeat([]int{2}, deep-1-kept), 1)
			wantRun(t, c, full(), done().along(path...).wrote(put(kept, kept)))
		}
		c := steps(store(9, num(9)))
		for range deep {
			c = choose(retries(1), c)
		}
		wantRun(t, c, full(), done().along(slices.Repeat([]int{2}, deep)...).wrote(put(9, 9)))
	}
}

// P10.1: the path stands in the order in which the Eithers were come to, and has
// none of what was undone.
func TestPath(t *testing.T) {
	one, two := choose(steps(set(0, num(1))), retries(1)), choose(retries(1), steps(set(0, num(1))))
	for _, x := range []struct {
		code []code.Step
		path []int
	}{
		{one, []int{1}}, {two, []int{2}},
		{join(one, two), []int{1, 2}}, {join(two, one), []int{2, 1}}, {join(two, one, one, two), []int{2, 1, 1, 2}},
		{choose(two, retries(1)), []int{1, 2}}, {choose(one, retries(1)), []int{1, 1}},
		{choose(retries(1), one), []int{2, 1}}, {choose(retries(1), two), []int{2, 2}},
		{choose(join(two, one), retries(1)), []int{1, 2, 1}}, {choose(retries(1), join(one, two)), []int{2, 1, 2}},
		{choose(join(one, two, retries(1)), steps(set(0, num(1)))), []int{2}},
		{choose(join(one, two, retries(1)), two), []int{2, 2}},
		{choose(join(one, retries(1)), join(two, one)), []int{2, 2, 1}},
		{join(choose(join(one, retries(1)), two), one), []int{2, 2, 1}},
		{join(one, choose(join(two, retries(1)), one), two), []int{1, 2, 1, 2}},
		{join(choose(one, retries(1)), two), []int{1, 1, 2}},
		{choose(choose(join(one, retries(1)), retries(1)), two), []int{2, 2}},
		{choose(choose(join(one, retries(1)), join(two, retries(1))), one), []int{2, 1}},
		{join(choose(choose(retries(1), join(one, one)), retries(1)), two), []int{1, 2, 1, 1, 2}},
		{slices.Repeat(steps(either(1, 1), set(0, num(1)), retry), 8), []int{1, 1, 1, 1, 1, 1, 1, 1}},
		{slices.Repeat(steps(either(1, 1), retry, set(0, num(1))), 8), []int{2, 2, 2, 2, 2, 2, 2, 2}},
	} {
		wantRun(t, x.code, live(5), done(1).along(x.path...))
		if len(x.code) < 24 {
			wantRun(t, append(slices.Clone(x.code), store(0, num(2))), live(5), done(1).along(x.path...).wrote(put(0, 2)))
			wantRun(t, append(slices.Clone(x.code), retry), live(5), Out{Kind: Again})
			wantRun(t, append(slices.Clone(x.code), fail(8)), live(5), Out{Kind: Failed, Why: 8})
			wantRun(t, append(slices.Clone(x.code), load(0, 1)), live(5), Out{Kind: Bad, Why: 1})
		}
	}
}

// P10.1: all that a first part did is undone, but for what it saw.
func TestUndone(t *testing.T) {
	first := steps(load(1, 2), store(2, num(70)), store(0, num(71)), set(2, num(72)), set(0, reg(1)), load(3, 2), load(4, 1), retry)
	wantRun(t, choose(first, steps(set(7, num(1)))), usual(), done(0, 0, 0, 0, 0, 0, 0, 1).along(2).saw(1, 2))
	wantRun(t, choose(first, steps(set(7, reg(1)), set(6, plus(2, 5)), set(5, plus(3, 6)))), usual(), done(0, 0, 0, 0, 0, 6, 5, 0).along(2).saw(1, 2))
	wantRun(t, choose(first, steps(load(5, 0), load(6, 2))), usual(), done(0, 0, 0, 0, 0, 10, 7, 0).along(2).saw(0, 1, 2))
	wantRun(t, choose(first, steps(store(2, plus(2, 4)))), usual(), done().along(2).saw(1, 2).wrote(put(2, 4)))
	wantRun(t, choose(first, retries(1)), usual(), Out{Kind: Again, Seen: []int{1, 2}})
	wantRun(t, choose(first, steps(fail(6))), usual(), Out{Kind: Failed, Why: 6, Seen: []int{1, 2}})
	wantRun(t, choose(first, steps(load(0, 6))), usual(), Out{Kind: Bad, Why: 6, Seen: []int{1, 2}})
	// What stood ahead of the Either is there again.
	ahead := steps(set(0, num(1)), set(1, num(2)), set(2, num(3)), set(3, num(4)), set(4, num(5)), store(2, num(60)), store(5, num(61)))
	wantRun(t, join(ahead, choose(first, steps(load(7, 2)))), usual(), done(1, 2, 3, 4, 5, 0, 0, 60).along(2).saw(1).wrote(put(2, 60), put(5, 61)))
	// What an inner one undid, or kept, is undone by the outer one.
	for _, inner := range [][]code.Step{choose(first, steps(store(3, num(8)))), choose(steps(store(3, num(8)), load(1, 1), load(1, 2)), retries(1))} {
		wantRun(t, choose(join(inner, retries(1)), steps(load(7, 3))), usual(), done(0, 0, 0, 0, 0, 0, 0, -1).along(2).saw(1, 2, 3))
	}
	wantRun(t, choose(join(steps(store(0, num(4))), choose(first, steps(load(6, 0), set(7, num(2))))), retries(1)), usual(),
		done(0, 0, 0, 0, 0, 0, 4, 2).along(1, 2).saw(1, 2).wrote(put(0, 4)))
}

// P10.1: what was kept, in a first part or in a second one, stands behind both.
func TestKept(t *testing.T) {
	part := steps(load(1, 2), store(2, plus(1, 1)), set(2, num(5)))
	behind := steps(load(3, 2), store(0, reg(2)))
	want := done(0, 7, 5, 8).saw(2).wrote(put(0, 5), put(2, 8))
	wantRun(t, join(choose(part, retries(1)), behind), usual(), want.along(1))
	wantRun(t, join(choose(part, steps(fail(1))), behind), usual(), want.along(1))
	wantRun(t, join(choose(retries(1), part), behind), usual(), want.along(2))
	wantRun(t, join(choose(choose(retries(1), part), retries(1)), behind), usual(), want.along(1, 2))
	wantRun(t, join(choose(retries(1), choose(part, retries(1))), behind), usual(), want.along(2, 1))
}

// P10.1: what is seen is what was loaded when no Store to it stood.
func TestSeen(t *testing.T) {
	s, l := store(2, num(60)), load(1, 2)
	for _, x := range []struct {
		code []code.Step
		want Out
	}{
		{steps(s, l), done(0, 60).wrote(put(2, 60))},
		{steps(l, s), done(0, 7).saw(2).wrote(put(2, 60))},
		{steps(l, s, l), done(0, 60).saw(2).wrote(put(2, 60))},
		{steps(l, l), done(0, 7).saw(2)},
		{steps(store(3, num(1)), l), done(0, 7).saw(2).wrote(put(3, 1))},
		{steps(s, store(2, num(61)), l), done(0, 61).wrote(put(2, 61))},
		{choose(steps(s, retry), steps(l)), done(0, 7).along(2).saw(2)},
		{choose(steps(s, l, retry), steps(set(0, num(1)))), done(1).along(2)},
		{choose(steps(s, l, retry), steps(l)), done(0, 7).along(2).saw(2)},
		{choose(steps(l, s, retry), steps(set(0, num(1)))), done(1).along(2).saw(2)},
		{choose(steps(l, retry), steps(s, l)), done(0, 60).along(2).saw(2).wrote(put(2, 60))},
		{choose(steps(l, retry), steps(load(1, 3))), done(0, -1).along(2).saw(2, 3)},
		{join(steps(s), choose(steps(store(2, num(61)), retry), steps(l))), done(0, 60).along(2).wrote(put(2, 60))},
		{join(steps(s), choose(steps(l, retry), steps(l))), done(0, 60).along(2).wrote(put(2, 60))},
		{join(choose(steps(s), retries(1)), steps(l)), done(0, 60).along(1).wrote(put(2, 60))},
		{join(choose(retries(1), steps(s)), steps(l)), done(0, 60).along(2).wrote(put(2, 60))},
		{join(choose(steps(s, retry), steps(set(0, num(1)))), steps(l)), done(1, 7).along(2).saw(2)},
		{steps(skip(1, num(0)), s, l), done(0, 7).saw(2)},
		{steps(skip(1, num(0)), l, s), done().wrote(put(2, 60))},
		{steps(l, retry), Out{Kind: Again, Seen: []int{2}}},
		{steps(s, l, retry), Out{Kind: Again}},
		{steps(l, fail(2)), Out{Kind: Failed, Why: 2, Seen: []int{2}}},
		{steps(fail(2), l), Out{Kind: Failed, Why: 2}},
		{steps(retry, l), Out{Kind: Again}},
		{choose(steps(l, retry), steps(load(1, 5), retry)), Out{Kind: Again, Seen: []int{2, 5}}},
		{choose(steps(load(1, 5), retry), steps(l, fail(0))), Out{Kind: Failed, Seen: []int{2, 5}}},
	} {
		wantRun(t, x.code, usual(), x.want)
	}
}

// P10.1: Seen and Writes rise, and have each cell once, whatever the order.
func TestSeenAndWritesRise(t *testing.T) {
	wantRun(t, steps(load(1, 5), load(2, 0), load(3, 3), load(4, 0), load(5, 5), load(6, 1)), usual(), done(0, 55, 10, -1, 10, 55, 0).saw(0, 1, 3, 5))
	wantRun(t, steps(store(5, num(1)), store(0, num(2)), store(3, num(3)), store(5, num(4)), store(1, num(5)), store(0, num(6))), usual(),
		done().wrote(put(0, 6), put(1, 5), put(3, 3), put(5, 4)))
	for first := range 41 {
		var loads, stores []code.Step
		var seen []int
		var wrote []api.Write
		for i := range 24 {
			loads = append(loads, load(0, first+23-i))
			stores = append(stores, store(first+(i*5)%24, num(i)))
			seen = append(seen, first+i)
			wrote = append(wrote, put(first+i, i*5%24))
		}
		wantRun(t, loads, full(), done(100+first).saw(seen...))
		wantRun(t, stores, full(), done().wrote(wrote...))
	}
}

// P10.1: as many Stores as steps, of one cell, and in an Either's part.
func TestMostStores(t *testing.T) {
	var c []code.Step
	for n := range 24 {
		c = append(c, store(0, num(n)))
	}
	wantRun(t, c, live(5), done().wrote(put(0, 23)))
	wantRun(t, choose(c[:22], retries(1)), live(5), done().along(1).wrote(put(0, 21)))
	wantRun(t, choose(retries(1), c[:22]), live(5), done().along(2).wrote(put(0, 21)))
	wantRun(t, choose(append(slices.Clone(c[:11]), retry), c[:11]), live(5), done().along(2).wrote(put(0, 10)))
}

// naughts tell 0, and others anything else, with the registers that are 0 at first.
func naughts() [][]term.Op {
	return [][]term.Op{
		num(0), reg(0), reg(7), append(num(5), not), append(slices.Concat(num(1<<16), num(1<<16)), term.Op{Kind: term.Times}),
		longest(6), append(slices.Concat(num(least), num(least)), term.Op{Kind: term.Plus}), append(slices.Concat(num(3), num(3)), term.Op{Kind: term.Less}),
	}
}

func others() [][]term.Op {
	return [][]term.Op{
		num(1), num(-1), num(2), num(least), num(greatest), num(256), num(1 << 16), append(num(0), not), plus(0, 5), longest(0),
		append(slices.Concat(num(least), num(1)), term.Op{Kind: term.Less}),
	}
}

// marks are steps that each store in a cell of their own, from the first on.
func marks(first, n int) []code.Step {
	var c []code.Step
	for cell := first; cell < first+n; cell++ {
		c = append(c, store(cell, num(cell)))
	}
	return c
}

func marked(cells ...int) []api.Write {
	var l []api.Write
	for _, cell := range cells {
		l = append(l, put(cell, cell))
	}
	return l
}

func count(first, n int) []int {
	var l []int
	for i := range n {
		l = append(l, first+i)
	}
	return l
}

// P10.1: a Skip, over each count of steps, up to the end of its part.
func TestSkips(t *testing.T) {
	for behind := 1; behind <= 23; behind++ {
		for n := 1; n <= behind; n++ {
			wantRun(t, join(steps(skip(n, num(0))), marks(0, behind)), full(), done().wrote(marked(count(n, behind-n)...)...))
			wantRun(t, join(steps(skip(n, num(1))), marks(0, behind)), full(), done().wrote(marked(count(0, behind)...)...))
		}
	}
	for n := 1; n <= 4; n++ {
		for _, x := range naughts() {
			wantSkipped(t, skip(n, x), marked(count(n, 4-n)...))
		}
		for _, x := range others() {
			wantSkipped(t, skip(n, x), marked(count(0, 4)...))
		}
	}
	// What it asks is what stands in the registers then.
	for _, n := range []int{0, 1, -1, greatest, least} {
		want := done(n).saw(0).wrote(put(1, 1))
		if n == 0 {
			want.Writes = nil
		}
		wantRun(t, steps(load(0, 0), skip(1, reg(0)), store(1, num(1))), live(n, 8), want)
	}
	wantRun(t, steps(skip(1, num(0)), skip(2, num(0)), set(0, num(1)), set(1, num(1))), live(5), done(1, 1))
	wantRun(t, steps(skip(2, num(1)), skip(1, num(0)), set(0, num(1)), set(1, num(1))), live(5), done(0, 1))
}

// wantSkipped puts a Skip and four steps into the whole, and into each part of an
// Either, with one behind it.
func wantSkipped(t *testing.T, s code.Step, want []api.Write) {
	t.Helper()
	part := join(steps(s), marks(0, 4))
	more := append(slices.Clone(want), marked(9)...)
	wantRun(t, part, full(), done().wrote(want...))
	wantRun(t, join(part, marks(9, 1)), full(), done().wrote(more...))
	wantRun(t, join(choose(part, steps(fail(1))), marks(9, 1)), full(), done().along(1).wrote(more...))
	wantRun(t, join(choose(retries(1), part), marks(9, 1)), full(), done().along(2).wrote(more...))
	wantRun(t, join(choose(choose(retries(1), part), steps(fail(1))), marks(9, 1)), full(), done().along(1, 2).wrote(more...))
	wantRun(t, join(choose(join(part, retries(1)), marks(20, 1)), marks(9, 1)), full(), done().along(2).wrote(marked(9, 20)...))
}

// P10.1: a Skip over an Either alone, with its first part, with some steps of a
// part, and with both: what is left of both parts is run, one behind the other.
func TestSkipsOverAnEither(t *testing.T) {
	for first := 1; first <= 4; first++ {
		for next := 1; next <= 4; next++ {
			for n := 1; n <= 1+first+next+2; n++ {
				c := join(steps(skip(n, num(0))), choose(marks(0, first), marks(first, next)), marks(first+next, 2))
				want := done().wrote(marked(count(n-1, 1+first+next+2-n)...)...)
				wantRun(t, c, full(), want)
				if len(c) <= 20 {
					wantRun(t, choose(c, steps(fail(1))), full(), want.along(1))
					wantRun(t, choose(retries(1), c), full(), want.along(2))
				}
				c[0] = skip(n, num(1))
				l := append(count(0, first), count(first+next, 2)...)
				wantRun(t, c, full(), done().along(1).wrote(marked(l...)...))
			}
		}
	}
}

// P10.1: a Retry, a Fail, or what is Bad, in what is left of an Either's parts, is
// one of the part that the Skip stands in.
func TestEndsInWhatIsLeft(t *testing.T) {
	can := marks(0, 1)
	for _, x := range []struct {
		part []code.Step
		want Out
	}{
		{join(steps(skip(1, num(0))), choose(retries(1), can)), Out{Kind: Again}},
		{join(steps(skip(1, num(0))), choose(can, retries(1))), Out{Kind: Again}},
		{join(steps(skip(2, num(0))), choose(retries(1), can)), done().wrote(put(0, 0))},
		{join(steps(skip(2, num(0))), choose(can, retries(1))), Out{Kind: Again}},
		{join(steps(skip(3, num(0))), choose(retries(1), retries(1))), done()},
		{join(steps(skip(1, num(0))), choose(can, steps(fail(4)))), Out{Kind: Failed, Why: 4}},
		{join(steps(skip(1, num(0))), choose(steps(load(0, 5)), steps(load(0, 9)))), Out{Kind: Bad, Why: 9, Seen: []int{5}}},
		{join(steps(skip(2, num(0))), choose(steps(load(0, 5)), steps(load(0, 9)))), Out{Kind: Bad, Why: 9}},
		{join(steps(skip(2, num(0))), choose(steps(load(0, 9)), steps(load(0, 5)))), done(55).saw(5)},
	} {
		wantRun(t, x.part, usual(), x.want)
		inFirst, inSecond := choose(x.part, marks(2, 1)), choose(retries(1), x.part)
		first, second := x.want, x.want
		switch x.want.Kind {
		case Done:
			first, second = x.want.along(1), x.want.along(2)
		case Again:
			first = done().along(2).wrote(put(2, 2))
		}
		wantRun(t, inFirst, usual(), first)
		wantRun(t, inSecond, usual(), second)
	}
}

// P10.1: an Either that a Skip comes to in another one's parts is run like any
// other, and so is a Skip there.
func TestEithersAndSkipsInWhatIsLeft(t *testing.T) {
	inner := choose(retries(1), marks(0, 1))
	outer := choose(join(inner, marks(1, 1)), marks(2, 2))
	for n, want := range map[int]Out{
		1: done().along(2).wrote(marked(0, 1, 2, 3)...),
		2: {Kind: Again},
		3: done().wrote(marked(0, 1, 2, 3)...),
		4: done().wrote(marked(1, 2, 3)...),
		5: done().wrote(marked(2, 3)...),
		6: done().wrote(marked(3)...),
		7: done(),
	} {
		wantRun(t, join(steps(skip(n, num(0))), outer), full(), want)
	}
	second := choose(marks(1, 2), inner)
	wantRun(t, join(steps(skip(1, num(0))), second), full(), done().along(2).wrote(marked(0, 1, 2)...))
	wantRun(t, join(steps(skip(3, num(0))), second), full(), done().along(2).wrote(marked(0)...))
	for n := 1; n <= 2; n++ {
		skips := choose(join(steps(skip(n, num(0))), marks(0, 2)), join(steps(skip(n, num(0))), marks(2, 2)))
		left := append(count(n, 2-n), count(2+n, 2-n)...)
		wantRun(t, join(steps(skip(1, num(0))), skips), full(), done().wrote(marked(left...)...))
		wantRun(t, join(steps(skip(2, num(0))), skips), full(), done().wrote(marked(append([]int{0, 1}, count(2+n, 2-n)...)...)...))
	}
}

// standing is what stands while a code is run by places, and what a frame keeps of
// it: the registers, the path, the cells, and which of them were stored.
type standing struct {
	regs   [8]int
	path   []int
	cells  []api.Cell
	stored [64]bool
}

func (s standing) copied() standing {
	s.path, s.cells = slices.Clone(s.path), slices.Clone(s.cells)
	return s
}

// frame is of an Either whose first part is run.
type frame struct {
	mid, end int
	was      standing
}

// byPlaces is how a run ends, told by places of the whole code instead of parts in
// one another.
func byPlaces(c []code.Step, h []api.Cell) Out {
	now := standing{cells: slices.Clone(h)}
	var frames []frame
	var seen [64]bool
	kind, why, pc := 0, 0, 0
	for kind == 0 {
		for len(frames) > 0 && frames[len(frames)-1].mid == pc {
			pc, frames = frames[len(frames)-1].end, frames[:len(frames)-1]
		}
		if pc == len(c) {
			kind = Done
			break
		}
		s := c[pc]
		cell, told := s.A, 0
		if s.Do == code.Load {
			cell = s.B
		}
		if len(s.Term) > 0 {
			told, _ = term.Eval(s.Term, h, now.regs[:])
		}
		pc++
		switch {
		case (s.Do == code.Load || s.Do == code.Store) && (cell >= len(h) || !h[cell].Live):
			kind, why = Bad, cell
		case s.Do == code.Load:
			now.regs[s.A] = now.cells[cell].Value
			seen[cell] = seen[cell] || !now.stored[cell]
		case s.Do == code.Set:
			now.regs[s.A] = told
		case s.Do == code.Store:
			now.cells[cell].Value, now.stored[cell] = told, true
		case s.Do == code.Skip && told == 0:
			pc += s.A
		case s.Do == code.Fail:
			kind, why = Failed, s.A
		case s.Do == code.Retry && len(frames) == 0:
			kind = Again
		case s.Do == code.Retry:
			last := frames[len(frames)-1]
			now, pc, frames = last.was.copied(), last.mid, frames[:len(frames)-1]
			now.path = append(now.path, 2)
		case s.Do == code.Either:
			frames = append(frames, frame{pc + s.A, pc + s.A + s.B, now.copied()})
			now.path = append(now.path, 1)
		}
	}
	return told(Out{Kind: kind, Why: why}, now, seen)
}

func told(o Out, now standing, seen [64]bool) Out {
	for cell := range 64 {
		if seen[cell] {
			o.Seen = append(o.Seen, cell)
		}
		if now.stored[cell] && o.Kind == Done {
			o.Writes = append(o.Writes, put(cell, now.cells[cell].Value))
		}
	}
	if o.Kind == Done {
		o.Regs, o.Path = now.regs[:], now.path
	}
	return o
}

// wantBeside asks for what is told by places, of that heap and of one with other
// values in all cells that were not seen. It answers how it ends; or 0, if it is no
// code.
func wantBeside(t *testing.T, c []code.Step, h []api.Cell) int {
	t.Helper()
	if code.Check(c) != api.OK {
		return 0
	}
	want := byPlaces(c, h)
	o, after, e := Run(c, h)
	if e != api.OK || !sameOut(o, want) || !slices.Equal(after, with(h, want.Writes)) {
		t.Fatalf("Run of %v on %v: %+v, %v, %d, want %+v", c, brief(h), o, brief(after), e, want)
	}
	other := unseen(h, want.Seen)
	again, after, e := Run(c, other)
	if e != api.OK || !sameOut(again, want) || !slices.Equal(after, with(other, want.Writes)) {
		t.Fatalf("Run of %v on %v, and on %v: %+v, %v, %d, want %+v", c, brief(h), brief(other), again, brief(after), e, want)
	}
	return o.Kind
}

// unseen is the heap with other values in all live cells but those that were seen.
func unseen(h []api.Cell, seen []int) []api.Cell {
	h = slices.Clone(h)
	for cell := range h {
		if h[cell].Live && !slices.Contains(seen, cell) {
			h[cell].Value = -h[cell].Value - 1
		}
	}
	return h
}

// P10.1, P10.2: every code of up to 6 steps from a small set.
func TestEveryShortCode(t *testing.T) {
	set := steps(load(1, 0), store(0, plus(1, 1)), load(1, 1), load(0, 2), skip(1, reg(1)), skip(2, num(0)), retry, fail(3), either(1, 1), either(1, 2), either(2, 1))
	h := append(live(5, 0), api.Cell{})
	ends := map[int]int{}
	var grow func(c []code.Step)
	grow = func(c []code.Step) {
		ends[wantBeside(t, c, h)]++
		if len(c) < 6 {
			for _, s := range set {
				grow(append(c, s))
			}
		}
	}
	grow(make([]code.Step, 0, 6))
	for kind := Done; kind <= Bad; kind++ {
		if ends[kind] < 1000 {
			t.Errorf("%d codes end as %d", ends[kind], kind)
		}
	}
}

// P10.1, P10.2: every code of 6 to 7 steps that ask for Eithers and Skips alone.
func TestEveryCodeOfEithersAndSkips(t *testing.T) {
	set := steps(store(1, plus(0, 1)), skip(1, num(0)), skip(2, num(0)), retry, either(1, 1), either(2, 2), either(3, 1))
	var grow func(c []code.Step)
	grow = func(c []code.Step) {
		if len(c) >= 6 {
			wantBeside(t, c, live(5, 6))
		}
		if len(c) < 7 {
			for _, s := range set {
				grow(append(c, s))
			}
		}
	}
	grow(make([]code.Step, 0, 7))
}

// picks tell numbers below a bound, always the same ones.
type picks uint64

func (p *picks) below(n int) int {
	*p = *p*6364136223846793005 + 1442695040888963407
	return int(uint64(*p)>>33) % n
}

// grown is a part of up to n steps, with Eithers up to deep in one another.
func grown(p *picks, n, deep int) []code.Step {
	var c []code.Step
	for len(c) < n {
		left := n - len(c)
		r, cell := p.below(8), p.below(8)
		switch kind := p.below(20); {
		case kind < 5:
			c = append(c, load(r, cell%7))
		case kind < 8:
			c = append(c, set(r, plus(p.below(8), p.below(5)-2)))
		case kind < 12:
			c = append(c, store(cell%6, plus(r, p.below(7)-3)))
		case kind < 14 && left > 1:
			c = append(c, skip(1+p.below(min(left-1, 6)), plus(r, p.below(3)-1)))
		case kind == 14 && p.below(2) == 0:
			c = append(c, retry)
		case kind == 15 && p.below(6) == 0:
			c = append(c, fail(p.below(256)))
		case kind > 15 && left > 2 && deep > 0:
			first := grown(p, 1+p.below(left-2), deep-1)
			if p.below(2) == 0 {
				first[len(first)-1] = retry
			}
			next := grown(p, 1+p.below(left-1-len(first)), deep-1)
			c = append(c, choose(first, next)...)
		}
	}
	return c
}

// P10.1, P10.2: long codes, of all that there is, beside what is told by places.
func TestLongCodes(t *testing.T) {
	p := picks(10)
	var ends [5]int
	for range 60000 {
		h := full()[:7]
		for cell := range h {
			h[cell].Value = p.below(5) - 2
			if cell == 4 && p.below(8) == 0 || cell == 6 && p.below(2) == 0 {
				h[cell] = api.Cell{}
			}
		}
		ends[wantBeside(t, grown(&p, 8+p.below(17), 6), h)]++
	}
	for kind := Done; kind <= Bad; kind++ {
		if ends[kind] < 1000 {
			t.Errorf("%d codes end as %d", ends[kind], kind)
		}
	}
	if ends[0] > 50000 {
		t.Errorf("%d are no codes", ends[0])
	}
}

// samples are codes that end in each way, and have done what there is to do.
func samples() [][]code.Step {
	busy := steps(load(1, 5), load(2, 0), store(3, plus(1, 1)), store(0, plus(2, 2)), set(7, num(9)))
	all := [][]code.Step{nil, busy, retries(1), steps(fail(4)), steps(load(0, 6)), choose(retries(1), busy), join(choose(busy, retries(1)), busy)}
	for _, s := range steps(retry, fail(4), load(0, 7), store(4, num(1))) {
		c := append(slices.Clone(busy), s)
		all = append(all, c, choose(c, busy), join(choose(c, busy), c), choose(choose(c, c), busy))
	}
	return all
}

// P10.2, R4: the same run again has the same end.
func TestTheSameRunAgain(t *testing.T) {
	for _, c := range samples() {
		want := byPlaces(c, usual())
		for range 3 {
			wantRun(t, c, usual(), want)
			wantRun(t, samples()[1], full(), byPlaces(samples()[1], full()))
		}
	}
}

// P10.2: behind what ends as anything but Done the next one finds all as it was;
// behind Done what was written.
func TestOneBehindTheOther(t *testing.T) {
	h := usual()
	for _, c := range samples() {
		o, after, e := Run(c, h)
		if e != api.OK || o.Kind != Done && !slices.Equal(after, h) {
			t.Errorf("Run of %v on %v: %+v, %v, %d", c, h, o, after, e)
		}
		wantRun(t, steps(load(0, 0), load(3, 3)), after, done(after[0].Value, 0, 0, after[3].Value).saw(0, 3))
		h = after
	}
}

// R1: neither the code nor the heap is changed, nor what stands in memory behind
// them.
func TestGivenStaysAsItWas(t *testing.T) {
	for _, c := range append(samples(), wrongCodes()...) {
		for _, h := range append(wrongHeaps(), usual(), full()) {
			longCode := append(copyOf(c), store(7, num(8)), retry)
			longHeap := append(slices.Clone(h), live(70, 71, 72)...)
			wasCode, wasHeap := copyOf(longCode), slices.Clone(longHeap)
			Run(longCode[:len(c)], longHeap[:len(h)])
			if !slices.EqualFunc(longCode, wasCode, sameStep) {
				t.Errorf("the code %v has become %v", brief(wasCode), brief(longCode))
			}
			if !slices.Equal(longHeap, wasHeap) {
				t.Errorf("the heap %v has become %v", brief(wasHeap), brief(longHeap))
			}
		}
	}
}

// R1: what is answered is new, and no list of it shares memory with another one.
func TestAnswersAreNew(t *testing.T) {
	for _, c := range samples() {
		c, h := copyOf(c), usual()
		want := byPlaces(c, h)
		wantHeap := with(h, want.Writes)
		for which := range 5 {
			o, after, _ := Run(c, h)
			lists := []*[]int{&o.Regs, &o.Path, &o.Seen}
			switch which {
			case 3:
				clear(o.Writes)
				_ = append(o.Writes, puts(put(9, 9), put(9, 9))...)
				o.Writes = want.Writes
			case 4:
				clear(after)
				_ = append(after, live(9, 9)...)
				after = wantHeap
			default:
				spoil(*lists[which])
				*lists[which] = slices.Clone([][]int{want.Regs, want.Path, want.Seen}[which])
			}
			if !sameOut(o, want) || !slices.Equal(after, wantHeap) {
				t.Errorf("Run of %v, behind a change of the list %d: %+v, %v", c, which, o, after)
			}
			wantRun(t, c, h, want)
		}
		o, after, _ := Run(c, h)
		clear(h)
		clear(c)
		if !sameOut(o, want) || !slices.Equal(after, wantHeap) {
			t.Errorf("Run keeps what it was given: %+v, %v, want %+v", o, after, want)
		}
	}
}

// spoil writes into a list, and behind it.
func spoil(l []int) {
	for i := range l {
		l[i] = 99
	}
	_ = append(l, 98, 98, 98)
}

// R1: the heap beside an error is new, too.
func TestHeapBesideAnErrorIsNew(t *testing.T) {
	for _, h := range append(wrongHeaps(), usual()) {
		was := slices.Clone(h)
		_, after, _ := Run(retries(25), h)
		clear(after)
		_ = append(after, live(9, 9)...)
		if !slices.Equal(h, was) {
			t.Errorf("behind a change of the answer the heap %v is %v", brief(was), brief(h))
		}
	}
}
