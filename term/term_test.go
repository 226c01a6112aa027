package term

import (
	"math"
	"math/big"
	"slices"
	"testing"

	"handshaker/api"
)

const (
	least    = -api.MaxValue - 1
	greatest = api.MaxValue
	turn     = 1 << 32
)

var (
	plus  = Op{Plus, 0}
	less  = Op{Less, 0}
	times = Op{Times, 0}
	not   = Op{Not, 0}
)

func num(n int) Op  { return Op{Const, n} }
func cell(n int) Op { return Op{Cell, n} }
func reg(n int) Op  { return Op{Reg, n} }

func live(value int) api.Cell { return api.Cell{Live: true, Value: value} }

// allLive is n live cells, of unlike values that are not 0.
func allLive(n int) []api.Cell {
	h := make([]api.Cell, n)
	for i := range h {
		h[i] = live(100 + i)
	}
	return h
}

func with[T any](l []T, place int, x T) []T {
	l = slices.Clone(l)
	l[place] = x
	return l
}

// nots is one number, and n-1 operations that take one and put one.
func nots(n int) []Op {
	return append([]Op{num(1)}, slices.Repeat([]Op{not}, n-1)...)
}

// ladder is n numbers ahead of all that adds them.
func ladder(n int) []Op {
	return append(slices.Repeat([]Op{num(1)}, n), slices.Repeat([]Op{plus}, n-1)...)
}

// chain is n numbers, each added as soon as it is told.
func chain(n int) []Op {
	t := []Op{num(1)}
	for range n - 1 {
		t = append(t, num(1), plus)
	}
	return t
}

// takers are the kinds that take numbers from the pile.
func takers() []int { return []int{4, 5, 6, 7, 8, 9, 10, 11} }

// around puts o in the place of an operation of a term that stands well if o is
// right: o is the first, the last, or stands among others.
func around(o Op) [][]Op {
	switch o.Kind {
	case Plus, Less, Times, Equal, Below, Both, Either:
		return [][]Op{{num(1), num(2), o}, {num(1), num(2), o, not}, {num(1), num(2), num(3), o, plus}}
	case Not:
		return [][]Op{{num(1), o}, {num(1), o, not}, {num(1), num(2), o, plus}}
	}
	return [][]Op{{o}, {o, not}, {num(1), o, plus}, {o, num(1), plus}, append(nots(10), o, plus)}
}

func rightOps() []Op {
	all := []Op{
		num(0), num(1), num(-1), num(7), num(123456789), num(least), num(least + 1), num(greatest - 1), num(greatest),
		cell(0), cell(1), cell(7), cell(8), cell(62), cell(63),
		reg(0), reg(1), reg(6), reg(7),
	}
	for _, kind := range takers() {
		all = append(all, Op{kind, 0})
	}
	return all
}

// wrongOps have one thing each that may not be, such as comes back to a right one
// if it is cut to fewer bits among them.
func wrongOps() []Op {
	all := []Op{
		num(least - 1), num(least - 2), num(greatest + 1), num(greatest + 2), num(turn), num(turn + 5), num(-turn),
		num(-turn + 5), num(math.MinInt), num(math.MaxInt),
		cell(-1), cell(-2), cell(-63), cell(64), cell(65), cell(128), cell(256), cell(turn), cell(turn + 3), cell(-turn),
		cell(math.MinInt), cell(math.MinInt + 3), cell(math.MaxInt),
		reg(-1), reg(-2), reg(-7), reg(8), reg(9), reg(16), reg(63), reg(64), reg(256), reg(turn), reg(turn + 3), reg(-turn),
		reg(math.MinInt), reg(math.MinInt + 3), reg(math.MaxInt),
	}
	for _, kind := range takers() {
		for _, n := range []int{1, -1, 2, 7, 64, 256, least, greatest, turn, -turn, math.MinInt, math.MaxInt} {
			all = append(all, Op{kind, n})
		}
	}
	for _, kind := range []int{0, -1, -2, -11, 12, 13, 16, 64, 256, 257, 260, turn, turn + 1, turn + 4, -turn + 1, math.MinInt, math.MinInt + 1, math.MaxInt} {
		all = append(all, Op{kind, 0}, Op{kind, 1})
	}
	return all
}

// wrongForms are made of right operations, and do not stand well.
func wrongForms() [][]Op {
	all := [][]Op{
		{not},
		{not, num(1)},
		{num(1), num(2)},
		{num(1), num(2), num(3)},
		{num(1), num(2), not},
		{num(1), not, num(2)},
		{num(1), num(2), num(3), plus},
		{num(1), num(2), plus, num(3)},
		{num(1), num(2), plus, plus},
		{num(1), plus, num(2)},
		{plus, num(1), num(2)},
		{num(1), plus, num(2), plus},
		{num(1), num(2), plus, plus, num(3)},
		{num(1), plus, num(2), num(3)},
		{not, num(1), not},
		{cell(3), reg(2)},
		slices.Repeat([]Op{num(1)}, 12),
		slices.Repeat([]Op{plus}, 12),
		slices.Repeat([]Op{not}, 12),
		append(ladder(6), num(1)),
		append(ladder(6), plus),
		append(slices.Repeat([]Op{num(1)}, 7), slices.Repeat([]Op{plus}, 5)...),
		append([]Op{not}, ladder(6)...),
	}
	for _, kind := range takers() {
		all = append(all, []Op{{kind, 0}}, []Op{{kind, 0}, num(1)}, []Op{{kind, 0}, num(1), num(2)})
		if kind != Not {
			all = append(all, []Op{num(1), {kind, 0}}, []Op{num(1), num(2), {kind, 0}, {kind, 0}}, []Op{num(1), {kind, 0}, num(2)})
		}
	}
	return all
}

// wrongLengths are of right operations that stand well, or would, and are none,
// or too many.
func wrongLengths() [][]Op {
	all := [][]Op{nil, {}}
	for _, n := range []int{13, 14, 24, 256, 257, 256 + 12, 1<<16 + 1} {
		all = append(all, nots(n), slices.Repeat([]Op{cell(3)}, n), slices.Repeat([]Op{plus}, n))
	}
	return append(all, ladder(7), chain(7), ladder(8), append(ladder(6), not, not))
}

// wrongBoth have an operation that may not be, and do not stand well either,
// whichever of the two comes first.
func wrongBoth() [][]Op {
	var all [][]Op
	for _, o := range wrongOps() {
		all = append(all,
			[]Op{o, num(1), num(2)}, []Op{num(1), num(2), num(3), o}, []Op{plus, o}, []Op{o, not, plus},
			[]Op{not, num(1), o}, []Op{num(1), plus, o}, append(slices.Repeat([]Op{num(1)}, 11), o),
		)
	}
	return all
}

// wrongTerms are all that have an error.
func wrongTerms() [][]Op {
	all := slices.Concat(wrongForms(), wrongLengths(), wrongBoth())
	for _, o := range wrongOps() {
		all = append(all, around(o)...)
	}
	return all
}

func rightTerms() [][]Op {
	all := [][]Op{
		ladder(1), ladder(2), ladder(5), ladder(6), append(ladder(6), not), chain(2), chain(5), chain(6), nots(2), nots(11), nots(12),
		{num(2), num(5), less},
		{cell(9), cell(3), cell(9), plus, plus},
		{cell(0), reg(7), times, cell(63), reg(0), less, plus, not},
		{num(1), num(2), plus, num(3), num(4), plus, times},
	}
	for _, o := range rightOps() {
		all = append(all, around(o)...)
	}
	return all
}

func rightHeaps() [][]api.Cell {
	return [][]api.Cell{
		{{}},
		{live(0)},
		{live(7), live(-2), {}},
		{live(least), {}, live(greatest), live(0)},
		make([]api.Cell, api.MaxCells),
		allLive(api.MaxCells),
		allLive(api.MaxCells - 1),
		with(allLive(api.MaxCells), 3, api.Cell{}),
	}
}

// wrongHeaps are too few cells and too many, and one wrong cell at each end, that
// no term need name.
func wrongHeaps() [][]api.Cell {
	all := [][]api.Cell{nil, {}, make([]api.Cell, 65), allLive(65), allLive(256 + 1)}
	for _, c := range []api.Cell{
		live(least - 1), live(greatest + 1), live(turn), live(turn + 5), live(math.MinInt), live(math.MaxInt),
		{Value: 1}, {Value: -1}, {Value: greatest}, {Value: turn},
	} {
		all = append(all, []api.Cell{c}, []api.Cell{c, live(1), live(2)}, []api.Cell{live(1), live(2), c}, with(allLive(64), 63, c), with(allLive(64), 0, c))
	}
	return all
}

// brief keeps what is long out of the tests' messages.
func brief[T any](l []T) []T { return l[:min(len(l), 12)] }

func wantCheck(t *testing.T, term []Op, want api.Errno) {
	t.Helper()
	if got := Check(term); got != want {
		t.Errorf("Check of %d operations %v: %d, want %d", len(term), brief(term), got, want)
	}
}

// P7.1
func TestCheckOfRightTerms(t *testing.T) {
	for _, term := range rightTerms() {
		wantCheck(t, term, api.OK)
	}
}

// P7.1: the numbers of the kinds are what the chapter says.
func TestKinds(t *testing.T) {
	got := []int{Const, Cell, Reg, Plus, Less, Times, Equal, Below, Both, Either, Not, MaxTerm}
	if want := []int{1, 2, 3, 4, 5, 6, 7, 8, 9, 10, 11, 12}; !slices.Equal(got, want) {
		t.Errorf("the kinds, and MaxTerm: %v", got)
	}
}

// P7.1
func TestCheckOfWrongOperations(t *testing.T) {
	for _, o := range wrongOps() {
		for _, term := range around(o) {
			wantCheck(t, term, api.ErrArg)
		}
	}
}

// P7.1: an operation is looked at wherever it stands.
func TestCheckLooksAtEachOperation(t *testing.T) {
	for _, term := range [][]Op{nots(12), append(ladder(6), not), append(chain(6), not)} {
		wantCheck(t, term, api.OK)
		for place := range term {
			for _, o := range wrongOps() {
				wantCheck(t, with(term, place, o), api.ErrArg)
			}
		}
	}
}

// P7.1: which numbers N may be, of each kind and around each end.
func TestCheckOfEachNumber(t *testing.T) {
	ends := map[int][2]int{Const: {least, greatest}, Cell: {0, 63}, Reg: {0, 7}}
	for kind := -2; kind <= 14; kind++ {
		for _, near := range []int{least, 0, 7, 63, greatest} {
			for n := near - 3; n <= near+3; n++ {
				term := []Op{{kind, n}}
				switch {
				case kind == Not:
					term = []Op{num(0), {kind, n}}
				case Plus <= kind && kind <= Either:
					term = []Op{num(0), num(0), {kind, n}}
				}
				want := api.ErrArg
				if end := ends[kind]; 1 <= kind && kind <= 11 && end[0] <= n && n <= end[1] {
					want = api.OK
				}
				wantCheck(t, term, want)
			}
		}
	}
}

// P7.1
func TestCheckOfWrongForms(t *testing.T) {
	for _, term := range wrongForms() {
		wantCheck(t, term, api.ErrForm)
	}
}

// P7.1: how many operations there may be, with those that do not stand well.
func TestCheckOfEachLength(t *testing.T) {
	for n := 1; n <= 40; n++ {
		well, form := api.OK, api.ErrForm
		if n > 12 {
			well, form = api.ErrArg, api.ErrArg
		}
		wantCheck(t, nots(n), well)
		wantCheck(t, slices.Repeat([]Op{not}, n), form)
		if n > 1 {
			wantCheck(t, slices.Repeat([]Op{num(1)}, n), form)
		}
	}
	for _, term := range wrongLengths() {
		wantCheck(t, term, api.ErrArg)
	}
}

// P7.1: ErrArg comes ahead of ErrForm, in whatever order they are met.
func TestCheckTellsErrArgFirst(t *testing.T) {
	for _, term := range wrongBoth() {
		wantCheck(t, term, api.ErrArg)
	}
}

// P7.1
func TestCells(t *testing.T) {
	for _, c := range []struct {
		term []Op
		want []int
	}{
		{[]Op{num(5)}, nil},
		{[]Op{reg(5)}, nil},
		{[]Op{num(5), reg(3), plus, not}, nil},
		{[]Op{cell(0)}, []int{0}},
		{[]Op{cell(63), not}, []int{63}},
		{[]Op{cell(2), num(1), plus}, []int{2}},
		{[]Op{num(1), cell(2), plus}, []int{2}},
		{[]Op{cell(4), cell(4), plus}, []int{4}},
		{[]Op{cell(1), cell(2), plus}, []int{1, 2}},
		{[]Op{cell(2), cell(1), plus}, []int{1, 2}},
		{[]Op{cell(9), cell(3), cell(9), plus, plus}, []int{3, 9}},
		{[]Op{cell(3), cell(9), cell(3), plus, plus}, []int{3, 9}},
		{[]Op{cell(3), cell(3), cell(3), plus, plus}, []int{3}},
		{[]Op{cell(10), reg(4), plus, cell(9), num(7), plus, plus}, []int{9, 10}},
		{[]Op{cell(63), cell(0), plus, cell(31), cell(7), plus, plus, cell(32), plus, cell(8), plus}, []int{0, 7, 8, 31, 32, 63}},
		{[]Op{cell(5), cell(4), cell(3), cell(2), cell(1), cell(0), plus, plus, plus, plus, plus, not}, []int{0, 1, 2, 3, 4, 5}},
		{[]Op{cell(5), cell(4), cell(5), cell(4), cell(5), cell(4), plus, plus, plus, plus, plus}, []int{4, 5}},
	} {
		if got := Cells(c.term); !slices.Equal(got, c.want) {
			t.Errorf("Cells(%v) = %v, want %v", c.term, got, c.want)
		}
	}
}

// P7.1: each cell that there may be, alone and beside each other one.
func TestCellsOfEachPair(t *testing.T) {
	for a := range 64 {
		if got := Cells([]Op{cell(a)}); !slices.Equal(got, []int{a}) {
			t.Errorf("Cells of %d: %v", a, got)
		}
		for b := range 64 {
			want := []int{min(a, b), max(a, b)}
			if a == b {
				want = want[:1]
			}
			if got := Cells([]Op{cell(a), cell(b), less}); !slices.Equal(got, want) {
				t.Errorf("Cells of %d and %d: %v", a, b, got)
			}
		}
	}
}

// P7.1
func TestDeep(t *testing.T) {
	for n := 1; n <= 6; n++ {
		if got := Deep(ladder(n)); got != n {
			t.Errorf("Deep of %d numbers ahead of all that adds them: %d", n, got)
		}
		if got := Deep(chain(n)); got != min(n, 2) {
			t.Errorf("Deep of %d numbers, each added at once: %d", n, got)
		}
	}
	for n := 1; n <= 12; n++ {
		if got := Deep(nots(n)); got != 1 {
			t.Errorf("Deep of %d operations on one number: %d", n, got)
		}
	}
	for _, c := range []struct {
		term []Op
		want int
	}{
		{append(ladder(6), not), 6},
		{[]Op{cell(1)}, 1},
		{[]Op{reg(1)}, 1},
		{[]Op{cell(1), reg(1), times}, 2},
		{[]Op{num(1), num(2), num(3), less, plus}, 3},
		{[]Op{num(1), num(2), less, num(3), plus}, 2},
		{[]Op{num(1), num(2), plus, num(3), num(4), plus, times}, 3},
		{[]Op{num(1), not, num(2), not, plus, not}, 2},
		{[]Op{num(1), num(2), num(3), plus, plus, num(4), plus}, 3},
	} {
		if got := Deep(c.term); got != c.want {
			t.Errorf("Deep(%v) = %d, want %d", c.term, got, c.want)
		}
	}
}

// P7.1
func TestCellsAndDeepOfErrors(t *testing.T) {
	for _, term := range append(wrongTerms(),
		[]Op{cell(1), cell(2)}, []Op{cell(1), plus}, []Op{cell(1), cell(64), plus}, []Op{cell(1), {Not, 1}}, []Op{cell(1), cell(2), plus, num(turn), plus},
		append(nots(12), not), append(chain(6), cell(1), plus), slices.Repeat([]Op{cell(1)}, 13),
	) {
		if l := Cells(term); len(l) != 0 {
			t.Errorf("Cells of %d operations %v: %v", len(term), brief(term), l)
		}
		if n := Deep(term); n != 0 {
			t.Errorf("Deep of %d operations %v: %d", len(term), brief(term), n)
		}
	}
}

func wantEval(t *testing.T, term []Op, h []api.Cell, regs []int, want int, e api.Errno) {
	t.Helper()
	if v, got := Eval(term, h, regs); v != want || got != e {
		t.Errorf("Eval(%v, %v, %v): %d, %d, want %d, %d", brief(term), brief(h), brief(regs), v, got, want, e)
	}
}

// P7.2: the chapter's example, and each kind written out.
func TestEvalOfEachKind(t *testing.T) {
	for _, c := range []struct {
		kind, earlier, later, want int
	}{
		{Less, 2, 5, -3}, {Less, 5, 2, 3}, {Less, 4, 4, 0}, {Less, 0, 4, -4}, {Less, 4, 0, 4}, {Less, 0, 0, 0},
		{Less, least, 1, greatest}, {Less, greatest, -1, least}, {Less, 0, least, least}, {Less, least, greatest, 1}, {Less, greatest, least, -1},
		{Plus, 2, 5, 7}, {Plus, 5, 2, 7}, {Plus, 4, -4, 0}, {Plus, 0, 4, 4}, {Plus, 4, 0, 4}, {Plus, 0, 0, 0},
		{Plus, greatest, 1, least}, {Plus, 1, greatest, least}, {Plus, least, -1, greatest}, {Plus, least, least, 0}, {Plus, greatest, greatest, -2},
		{Times, 2, 5, 10}, {Times, -2, 5, -10}, {Times, -2, -5, 10}, {Times, 0, 5, 0}, {Times, 5, 0, 0}, {Times, 0, 0, 0}, {Times, 1, 9, 9},
		{Times, least, -1, least}, {Times, 65536, 65536, 0}, {Times, 65536, 32768, least}, {Times, greatest, greatest, 1}, {Times, 123456789, 987654321, -67153019},
		{Equal, 2, 2, 1}, {Equal, 2, 5, 0}, {Equal, 5, 2, 0}, {Equal, 0, 0, 1}, {Equal, 0, 5, 0}, {Equal, 5, 0, 0}, {Equal, 5, -5, 0},
		{Equal, least, greatest, 0}, {Equal, least, least, 1}, {Equal, greatest, greatest, 1}, {Equal, greatest, -1, 0},
		{Below, 2, 5, 1}, {Below, 5, 2, 0}, {Below, 4, 4, 0}, {Below, 0, 0, 0}, {Below, -1, 0, 1}, {Below, 0, -1, 0}, {Below, 0, 1, 1},
		{Below, -1, 1, 1}, {Below, least, greatest, 1}, {Below, greatest, least, 0}, {Below, least, least, 0}, {Below, least, least + 1, 1},
		{Both, 0, 0, 0}, {Both, 0, 5, 0}, {Both, 5, 0, 0}, {Both, 2, 5, 1}, {Both, 5, 2, 1}, {Both, 4, 4, 1}, {Both, -1, 1, 1}, {Both, 1, 2, 1},
		{Both, least, greatest, 1}, {Both, least, 0, 0}, {Both, 0, least, 0},
		{Either, 0, 0, 0}, {Either, 0, 5, 1}, {Either, 5, 0, 1}, {Either, 2, 5, 1}, {Either, 5, -5, 1}, {Either, 4, 4, 1}, {Either, -1, 0, 1},
		{Either, 0, least, 1}, {Either, least, 0, 1}, {Either, least, least, 1}, {Either, greatest, 0, 1},
	} {
		h := []api.Cell{live(c.earlier), {}, live(c.later)}
		regs := []int{0, c.earlier, c.later}
		for _, first := range []Op{num(c.earlier), cell(0), reg(1)} {
			for _, second := range []Op{num(c.later), cell(2), reg(2)} {
				wantEval(t, []Op{first, second, {c.kind, 0}}, h, regs, c.want, api.OK)
			}
		}
	}
}

// P7.2
func TestEvalOfNot(t *testing.T) {
	for n, want := range map[int]int{0: 1, 1: 0, -1: 0, 2: 0, 256: 0, 65536: 0, least: 0, greatest: 0} {
		for _, o := range []Op{num(n), cell(0), reg(0)} {
			wantEval(t, []Op{o, not}, []api.Cell{live(n)}, []int{n}, want, api.OK)
			wantEval(t, []Op{o, not, not}, []api.Cell{live(n)}, []int{n}, 1-want, api.OK)
		}
	}
}

// P7.2: of several, those that were told last are taken, and the result is told.
func TestEvalOfThePile(t *testing.T) {
	h := []api.Cell{live(7), live(-2), {}}
	for _, c := range []struct {
		term []Op
		want int
	}{
		{[]Op{num(4)}, 4},
		{[]Op{num(100), num(30), num(2), less, less}, 72},
		{[]Op{num(100), num(30), less, num(2), less}, 68},
		{[]Op{num(1), num(2), num(3), less, plus}, 0},
		{[]Op{num(2), num(3), num(4), times, plus}, 14},
		{[]Op{num(2), num(3), plus, num(4), times}, 20},
		{[]Op{num(9), num(0), not, less}, 8},
		{[]Op{num(9), num(2), less, num(8), num(3), less, less}, 2},
		{[]Op{num(9), num(2), less, num(8), num(3), less, times}, 35},
		{[]Op{num(1), num(2), num(4), num(8), num(16), num(32), less, less, less, less, less}, -21},
		{[]Op{num(1), num(2), num(4), num(8), num(16), num(32), less, less, less, less, less, not}, 0},
		{[]Op{num(1), num(2), less, num(4), less, num(8), less, num(16), less, num(32), less}, -61},
		{[]Op{cell(0), cell(1), times}, -14},
		{[]Op{cell(0), cell(0), times}, 49},
		{[]Op{reg(1), reg(1), reg(0), less, less}, 20},
		{[]Op{cell(1), num(0), {Below, 0}}, 1},
		{[]Op{num(2), num(1), {Below, 0}, num(1), {Below, 0}}, 1},
		{[]Op{num(5), num(5), {Equal, 0}, num(1), {Equal, 0}}, 1},
		{[]Op{num(5), num(6), {Both, 0}, num(1), {Equal, 0}}, 1},
		{[]Op{num(5), num(6), {Either, 0}, num(1), {Equal, 0}}, 1},
		{[]Op{num(greatest), num(1), plus, num(0), {Below, 0}}, 1},
		{[]Op{num(greatest), num(1), plus, num(1), less}, greatest},
		{[]Op{num(65536), num(65536), times, not}, 1},
	} {
		wantEval(t, c.term, h, []int{20, 10}, c.want, api.OK)
	}
}

// P7.2: a term names cells that are live, that are not, and that the heap has not.
func TestEvalOfCells(t *testing.T) {
	for _, h := range append(rightHeaps(), []api.Cell{live(5), {}, live(0)}) {
		for n := range 64 {
			want, e := 0, api.ErrNone
			if n < len(h) && h[n].Live {
				want, e = h[n].Value, api.OK
			}
			wantEval(t, []Op{cell(n)}, h, nil, want, e)
			wantEval(t, []Op{num(0), cell(n), plus}, h, nil, want, e)
			wantEval(t, []Op{cell(n), num(0), plus}, h, nil, want, e)
			if e != api.OK {
				wantEval(t, []Op{cell(n), not}, h, nil, 0, e)
				wantEval(t, []Op{cell(n), num(0), times}, h, nil, 0, e)
				wantEval(t, []Op{num(1), cell(n), {Either, 0}}, h, nil, 0, e)
				wantEval(t, []Op{num(0), cell(n), {Both, 0}}, h, nil, 0, e)
			}
		}
	}
}

// P7.2: regs may be none, some, or more than a term may name.
func TestEvalOfRegisters(t *testing.T) {
	for _, size := range []int{0, 1, 2, 7, 8, 9, 64, 1000} {
		regs := make([]int, size)
		for i := range regs {
			regs[i] = 10 - 3*i
		}
		for n := range 8 {
			want, e := 0, api.ErrNone
			if n < size {
				want, e = regs[n], api.OK
			}
			wantEval(t, []Op{reg(n)}, []api.Cell{{}}, regs, want, e)
			wantEval(t, []Op{num(0), reg(n), plus}, allLive(64), regs, want, e)
			if e != api.OK {
				wantEval(t, []Op{reg(n), not}, []api.Cell{{}}, regs, 0, e)
				wantEval(t, []Op{num(1), reg(n), {Either, 0}}, allLive(64), regs, 0, e)
				wantEval(t, []Op{reg(n), num(0), {Both, 0}}, allLive(64), regs, 0, e)
			}
		}
		wantEval(t, []Op{reg(8)}, []api.Cell{{}}, regs, 0, api.ErrArg)
	}
}

// P7.2: a register that is no value goes round, ahead of what is told of it.
func TestEvalOfRegistersThatGoRound(t *testing.T) {
	for _, c := range []struct{ n, want int }{
		{least, least}, {greatest, greatest}, {least - 1, greatest}, {greatest + 1, least}, {least - 2, greatest - 1}, {greatest + 2, least + 1},
		{turn, 0}, {-turn, 0}, {turn + 5, 5}, {-turn + 5, 5}, {turn - 5, -5}, {3*turn + greatest, greatest},
		{math.MinInt, 0}, {math.MinInt + 1, 1}, {math.MaxInt, -1}, {math.MaxInt - 1, -2}, {math.MaxInt - greatest, least},
	} {
		regs := []int{0, c.n}
		truth := map[bool]int{true: 1}
		h := []api.Cell{live(c.want)}
		wantEval(t, []Op{reg(1)}, h, regs, c.want, api.OK)
		wantEval(t, []Op{reg(1), not}, h, regs, truth[c.want == 0], api.OK)
		wantEval(t, []Op{reg(1), cell(0), {Equal, 0}}, h, regs, 1, api.OK)
		wantEval(t, []Op{num(c.want), reg(1), {Equal, 0}}, h, regs, 1, api.OK)
		wantEval(t, []Op{reg(1), cell(0), less}, h, regs, 0, api.OK)
		wantEval(t, []Op{reg(1), num(0), {Below, 0}}, h, regs, truth[c.want < 0], api.OK)
		wantEval(t, []Op{num(0), reg(1), {Below, 0}}, h, regs, truth[c.want > 0], api.OK)
		wantEval(t, []Op{reg(1), num(1), {Both, 0}}, h, regs, truth[c.want != 0], api.OK)
		wantEval(t, []Op{num(0), reg(1), {Either, 0}}, h, regs, truth[c.want != 0], api.OK)
	}
}

// P7.2: what is no heap is ErrArg, whether the term names a cell or none, and
// ahead of a cell and a register that there is none of.
func TestEvalOfNoHeap(t *testing.T) {
	for _, h := range wrongHeaps() {
		for _, term := range append(rightTerms(), []Op{cell(1)}, []Op{reg(0)}, []Op{cell(63), reg(7), plus}) {
			for _, regs := range [][]int{nil, {1}, {0, 1, 2, 3, 4, 5, 6, 7}} {
				wantEval(t, term, h, regs, 0, api.ErrArg)
			}
		}
	}
}

// P7.2: Check's error comes ahead of what is no heap, and of what there is not.
func TestEvalTellsChecksErrorFirst(t *testing.T) {
	terms := append(wrongTerms(), []Op{cell(5), reg(5)}, []Op{reg(5), plus}, []Op{cell(5), reg(8), plus}, []Op{reg(5), {Not, 2}})
	for _, h := range [][]api.Cell{nil, {{Value: 1}}, allLive(65), {{}}, allLive(2), allLive(64)} {
		for _, regs := range [][]int{nil, {1}, {0, 1, 2, 3, 4, 5, 6, 7, 8}} {
			for _, term := range terms {
				want := Check(term)
				if want == api.OK {
					t.Fatalf("%v has no error", term)
				}
				wantEval(t, term, h, regs, 0, want)
			}
		}
	}
	wantEval(t, []Op{num(1), num(2)}, nil, nil, 0, api.ErrForm)
	wantEval(t, []Op{cell(1), reg(2)}, []api.Cell{{Value: 1}}, nil, 0, api.ErrForm)
	wantEval(t, []Op{cell(64), plus}, []api.Cell{{}}, nil, 0, api.ErrArg)
}

// P7.3: cells that the term does not name may be anything that a heap has, or be
// missing behind those that it names; so may registers.
func TestOnlyWhatIsNamedMatters(t *testing.T) {
	term := []Op{cell(4), reg(3), less, cell(1), times}
	h := []api.Cell{live(90), live(3), {}, live(-90), live(50)}
	regs := []int{80, 81, 82, 8}
	const want = (50 - 8) * 3
	wantEval(t, term, h, regs, want, api.OK)
	longer := append(slices.Clone(h), allLive(59)...)
	for place := range longer {
		if place == 1 || place == 4 {
			continue
		}
		for _, c := range []api.Cell{{}, live(0), live(3), live(50), live(least), live(greatest)} {
			wantEval(t, term, with(longer, place, c), regs, want, api.OK)
			if place < len(h) {
				wantEval(t, term, with(h, place, c), regs, want, api.OK)
			}
		}
	}
	for place := range 3 {
		for _, n := range []int{0, 8, least, greatest + 1, math.MinInt, math.MaxInt} {
			wantEval(t, term, h, with(regs, place, n), want, api.OK)
			wantEval(t, term, h, append(with(regs, place, n), n), want, api.OK)
		}
	}
	wantEval(t, term, h, append(slices.Clone(regs), make([]int, 300)...), want, api.OK)
	wantEval(t, term, h[:4], regs, 0, api.ErrNone)
	wantEval(t, term, h, regs[:3], 0, api.ErrNone)
}

// P7.3: two heaps that are alike in the cells that Cells tells, and in no other,
// tell the same of each term.
func TestHeapsAlikeInTheCellsNamed(t *testing.T) {
	regs := []int{3, -4, 5, 0, 7, turn + 8, 9, 1}
	for _, term := range rightTerms() {
		one, other := allLive(64), make([]api.Cell, 64)
		for _, n := range Cells(term) {
			other[n] = one[n]
		}
		want, e := Eval(term, one, regs)
		if e != api.OK {
			t.Fatalf("Eval(%v): %d", term, e)
		}
		wantEval(t, term, other, regs, want, api.OK)
		for _, n := range Cells(term) {
			wantEval(t, term, with(one, n, api.Cell{}), regs, 0, api.ErrNone)
		}
		if l := Cells(term); len(l) == 0 {
			wantEval(t, term, []api.Cell{{}}, regs, want, api.OK)
		} else {
			wantEval(t, term, one[:l[len(l)-1]+1], regs, want, api.OK)
		}
	}
}

// tree is a term told another way: an operation, and what it takes.
type tree struct {
	op    Op
	parts []*tree
}

// grow reads a term from behind, and leaves what is ahead of it; it is nil, if
// there is not enough.
func grow(term []Op) (*tree, []Op) {
	if len(term) == 0 {
		return nil, nil
	}
	x, rest := &tree{op: term[len(term)-1]}, term[:len(term)-1]
	need := 2
	if x.op.Kind <= Reg {
		need = 0
	} else if x.op.Kind == Not {
		need = 1
	}
	for range need {
		var part *tree
		if part, rest = grow(rest); part == nil {
			return nil, nil
		}
		x.parts = append([]*tree{part}, x.parts...)
	}
	return x, rest
}

// whole is the tree of a term that stands well, else nil.
func whole(term []Op) *tree {
	if x, rest := grow(term); len(rest) == 0 {
		return x
	}
	return nil
}

func (x *tree) deep() int {
	most := 1
	for i, part := range x.parts {
		most = max(most, i+part.deep())
	}
	return most
}

func (x *tree) cells() map[int]bool {
	all := map[int]bool{}
	if x.op.Kind == Cell {
		all[x.op.N] = true
	}
	for _, part := range x.parts {
		for n := range part.cells() {
			all[n] = true
		}
	}
	return all
}

// round reckons where n goes round to in numbers without an end.
func round(n *big.Int) *big.Int {
	low := big.NewInt(least)
	far := new(big.Int).Sub(n, low)
	far.Mod(far, big.NewInt(turn))
	return far.Add(far, low)
}

func (x *tree) value(h []api.Cell, regs []int) *big.Int {
	switch x.op.Kind {
	case Const:
		return big.NewInt(int64(x.op.N))
	case Cell:
		return big.NewInt(int64(h[x.op.N].Value))
	case Reg:
		return round(big.NewInt(int64(regs[x.op.N])))
	}
	a, b := x.parts[0].value(h, regs), new(big.Int)
	if len(x.parts) > 1 {
		b = x.parts[1].value(h, regs)
	}
	switch x.op.Kind {
	case Plus:
		return round(new(big.Int).Add(a, b))
	case Less:
		return round(new(big.Int).Sub(a, b))
	case Times:
		return round(new(big.Int).Mul(a, b))
	}
	so := map[int]bool{
		Equal:  a.Cmp(b) == 0,
		Below:  a.Cmp(b) < 0,
		Both:   a.Sign() != 0 && b.Sign() != 0,
		Either: a.Sign() != 0 || b.Sign() != 0,
		Not:    a.Sign() == 0,
	}
	if so[x.op.Kind] {
		return big.NewInt(1)
	}
	return big.NewInt(0)
}

// each tells every list of 1 to n of the operations.
func each(ops []Op, n int, tell func(term []Op)) {
	var grown func(term []Op)
	grown = func(term []Op) {
		if len(term) > 0 {
			tell(term)
		}
		if len(term) == n {
			return
		}
		for _, o := range ops {
			grown(append(term, o))
		}
	}
	grown(make([]Op, 0, n))
}

// P7.1 to P7.3: every short list of operations, beside its tree.
func TestEveryShortTerm(t *testing.T) {
	h := []api.Cell{live(greatest), {}, live(-3)}
	regs := []int{turn + 2, math.MinInt}
	ops := []Op{num(65536), num(0), cell(0), cell(2), reg(0), reg(1)}
	for _, kind := range takers() {
		ops = append(ops, Op{kind, 0})
	}
	each(ops, 5, func(term []Op) {
		x := whole(term)
		if x == nil {
			if v, e := Eval(term, h, regs); v != 0 || e != api.ErrForm || Check(term) != api.ErrForm {
				t.Fatalf("%v does not stand well: %d, %d", term, v, e)
			}
			return
		}
		if v, e := Eval(term, h, regs); e != api.OK || int64(v) != x.value(h, regs).Int64() {
			t.Fatalf("Eval(%v): %d, %d, want %d", term, v, e, x.value(h, regs))
		}
	})
}

// P7.1: every form that a term may have, beside its tree.
func TestEveryForm(t *testing.T) {
	seen := 0
	each([]Op{cell(7), plus, not}, 12, func(term []Op) {
		x := whole(term)
		want, deep, cells := api.ErrForm, 0, 0
		if x != nil {
			want, deep, cells = api.OK, x.deep(), len(x.cells())
			seen = max(seen, deep)
		}
		if e, n, l := Check(term), Deep(term), Cells(term); e != want || n != deep || len(l) != cells {
			t.Fatalf("%v: Check %d, Deep %d, Cells %v, want %d, %d, %d", term, e, n, l, want, deep, cells)
		}
	})
	if seen != 6 {
		t.Errorf("the deepest term: %d", seen)
	}
}

// P1: whatever it is given, each call ends.
func TestAnyArguments(t *testing.T) {
	numbers := []int{math.MinInt, least - 1, -1, 0, 1, 7, 8, 11, 12, 63, 64, greatest + 1, math.MaxInt}
	var ops []Op
	for _, kind := range []int{math.MinInt, -1, 0, 1, 2, 3, 4, 10, 11, 12, math.MaxInt} {
		for _, n := range numbers {
			ops = append(ops, Op{kind, n})
		}
	}
	each(ops, 2, func(term []Op) {
		for _, h := range [][]api.Cell{nil, {live(1)}, {{Value: 1}}} {
			for _, regs := range [][]int{nil, {math.MinInt}} {
				e := Check(term)
				if v, got := Eval(term, h, regs); e != api.OK && (got != e || v != 0) {
					t.Fatalf("Eval(%v, %v, %v): %d, %d, and Check %d", term, h, regs, v, got, e)
				}
			}
		}
	})
}

// R1, R4: no call changes what it was given, nor what is behind the ends of it,
// nor keeps it; and what it told it tells again.
func TestAllStaysAsItWas(t *testing.T) {
	heaps := slices.Concat(rightHeaps(), wrongHeaps()[:12])
	for _, term := range slices.Concat(rightTerms(), wrongTerms()) {
		for _, h := range heaps {
			regs := []int{5, math.MaxInt, -7, turn, least, 0, 1, greatest + 1}
			spareOps, spareCells, spareRegs := []Op{num(71), plus}, []api.Cell{live(72), {Value: 9}}, []int{73, 74}
			roomOps, roomCells, roomRegs := slices.Concat(term, spareOps), slices.Concat(h, spareCells), slices.Concat(regs, spareRegs)
			ops, cells, numbers := roomOps[:len(term)], roomCells[:len(h)], roomRegs[:len(regs)]
			e, deep, named := Check(ops), Deep(ops), Cells(ops)
			v, got := Eval(ops, cells, numbers)
			told := slices.Clone(named)
			for i := range named {
				named[i] = -1234
			}
			_ = append(named, -1234)
			if !slices.Equal(roomOps, slices.Concat(term, spareOps)) {
				t.Fatalf("%v became %v", brief(term), brief(roomOps))
			}
			if !slices.Equal(roomCells, slices.Concat(h, spareCells)) || !slices.Equal(roomRegs, slices.Concat(regs, spareRegs)) {
				t.Fatalf("%v changed %v into %v, or %v into %v", brief(term), brief(h), brief(roomCells), regs, roomRegs)
			}
			if Check(ops) != e || Deep(ops) != deep || !slices.Equal(Cells(ops), told) {
				t.Fatalf("of %v something else is told the second time", brief(term))
			}
			if v2, got2 := Eval(ops, cells, numbers); v2 != v || got2 != got {
				t.Fatalf("Eval(%v, %v, %v): %d, %d, and then %d, %d", brief(term), brief(h), regs, v, got, v2, got2)
			}
		}
	}
}

// R1: what Cells tells is not what it was handed.
func TestCellsAreNotKept(t *testing.T) {
	term := []Op{cell(9), cell(3), plus}
	l := Cells(term)
	term[0], term[1] = cell(1), cell(2)
	if other := Cells(term); !slices.Equal(l, []int{3, 9}) || !slices.Equal(other, []int{1, 2}) {
		t.Errorf("Cells: %v, and then %v", l, other)
	}
}

// R5: regs that are nil and regs that are empty are the same.
func TestNilAndEmpty(t *testing.T) {
	for _, regs := range [][]int{nil, {}} {
		wantEval(t, []Op{num(3)}, []api.Cell{{}}, regs, 3, api.OK)
		wantEval(t, []Op{reg(0)}, []api.Cell{{}}, regs, 0, api.ErrNone)
		wantEval(t, nil, []api.Cell{{}}, regs, 0, api.ErrArg)
		wantEval(t, []Op{}, []api.Cell{{}}, regs, 0, api.ErrArg)
		wantEval(t, []Op{num(3)}, []api.Cell{}, regs, 0, api.ErrArg)
	}
}
