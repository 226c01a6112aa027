package heap

import (
	"maps"
	"math"
	"slices"
	"testing"

	"handshaker/api"
)

const (
	least    = -api.MaxValue - 1
	greatest = api.MaxValue
	turn     = 1 << 32
)

var free = api.Cell{}

func live(value int) api.Cell { return api.Cell{Live: true, Value: value} }

func write(cell, value int) api.Write { return api.Write{Cell: cell, Value: value} }

// allLive is n live cells, of unlike values that are not 0.
func allLive(n int) []api.Cell {
	h := make([]api.Cell, n)
	for i := range h {
		h[i] = live(100 + i)
	}
	return h
}

func with(h []api.Cell, place int, c api.Cell) []api.Cell {
	h = slices.Clone(h)
	h[place] = c
	return h
}

// rightHeaps are heaps of 1 cell, of some, and of MaxCells.
func rightHeaps() [][]api.Cell {
	return [][]api.Cell{
		{free},
		{live(0)},
		{live(least)},
		{live(greatest)},
		{free, live(7)},
		{live(7), free},
		{free, free, free},
		{live(1), free, live(3), free},
		{live(least), live(greatest), live(-1), live(0)},
		make([]api.Cell, api.MaxCells),
		allLive(api.MaxCells),
		with(allLive(api.MaxCells), 0, free),
		with(allLive(api.MaxCells), api.MaxCells-1, free),
		with(make([]api.Cell, api.MaxCells), api.MaxCells-1, live(5)),
		allLive(api.MaxCells - 1),
	}
}

// wrongHeaps are too few cells and too many, and one wrong cell at each end.
func wrongHeaps() [][]api.Cell {
	all := [][]api.Cell{
		nil,
		{},
		make([]api.Cell, api.MaxCells+1),
		allLive(api.MaxCells + 1),
		allLive(2 * api.MaxCells),
		allLive(1 << 16),
	}
	for _, c := range []api.Cell{
		live(least - 1), live(greatest + 1), live(turn), live(-turn), live(turn + 5),
		live(math.MinInt), live(math.MaxInt),
		{Value: 1}, {Value: -1}, {Value: least}, {Value: greatest}, {Value: greatest + 1}, {Value: turn},
		{Value: math.MinInt}, {Value: math.MaxInt},
	} {
		all = append(all,
			[]api.Cell{c},
			[]api.Cell{c, live(1), free},
			[]api.Cell{free, live(1), c},
			with(allLive(api.MaxCells), api.MaxCells-1, c),
			with(make([]api.Cell, api.MaxCells), 0, c),
		)
	}
	return all
}

func wrongValues() []int {
	return []int{least - 1, least - 2, greatest + 1, greatest + 2, turn, -turn, turn + 5, math.MinInt, math.MaxInt}
}

func rightValues() []int {
	return []int{0, 1, -1, 12345, least, least + 1, greatest - 1, greatest}
}

// noCells are numbers of no cell of h: those of cells that are not live, those
// below 0 and past the last, and such as come back to a cell if they are cut to
// fewer bits or counted from behind.
func noCells(h []api.Cell) []int {
	none := []int{
		-1, -2, -len(h), -len(h) - 1, len(h), len(h) + 1, 2 * len(h), api.MaxCells, 256, 1 << 16, 1 << 31,
		turn, turn + 1, -turn, -turn + 1, math.MinInt, math.MinInt + 1, math.MaxInt, math.MaxInt - 1,
	}
	for number, c := range h {
		if !c.Live {
			none = append(none, number)
		}
	}
	return slices.DeleteFunc(none, func(n int) bool { return 0 <= n && n < len(h) && h[n].Live })
}

func liveCells(h []api.Cell) []int {
	var numbers []int
	for number, c := range h {
		if c.Live {
			numbers = append(numbers, number)
		}
	}
	return numbers
}

// brief keeps the heaps of many cells out of the tests' messages.
func brief(h []api.Cell) []api.Cell { return h[:min(len(h), 6)] }

// P2.1
func TestNewOfEachLength(t *testing.T) {
	for n := 1; n <= api.MaxCells; n++ {
		h, e := New(n)
		if e != api.OK || len(h) != n {
			t.Errorf("New(%d): %d cells, error %d", n, len(h), e)
		}
		if slices.ContainsFunc(h, func(c api.Cell) bool { return c != free }) {
			t.Errorf("New(%d): %v, want no cell that is live, and no value", n, h)
		}
		if !Right(h) || len(Live(h)) != 0 {
			t.Errorf("New(%d): Right %v, Live %v", n, Right(h), Live(h))
		}
	}
}

// P2.1
func TestNewOfWrongLengths(t *testing.T) {
	for _, n := range []int{
		0, -1, -2, -api.MaxCells, api.MaxCells + 1, api.MaxCells + 2, 128, 257, 1 << 16,
		turn, turn + 1, -turn + 1, math.MinInt, math.MinInt + 1, math.MaxInt,
	} {
		if h, e := New(n); e != api.ErrArg || len(h) != 0 {
			t.Errorf("New(%d): %v, %d, want none and ErrArg", n, brief(h), e)
		}
	}
}

// P2.1
func TestRightOfHeaps(t *testing.T) {
	for _, h := range rightHeaps() {
		if !Right(h) {
			t.Errorf("Right of %d cells %v: false", len(h), brief(h))
		}
	}
	for _, v := range rightValues() {
		if !Right([]api.Cell{live(v)}) {
			t.Errorf("Right of a live cell of %d: false", v)
		}
	}
}

// P2.1
func TestRightOfNoHeaps(t *testing.T) {
	for _, h := range wrongHeaps() {
		if Right(h) {
			t.Errorf("Right of %d cells %v: true", len(h), brief(h))
		}
	}
}

// P2.1: a cell is looked at wherever it stands.
func TestRightLooksAtEachCell(t *testing.T) {
	for place := range api.MaxCells {
		for _, c := range []api.Cell{live(greatest + 1), live(least - 1), {Value: 1}} {
			if Right(with(allLive(api.MaxCells), place, c)) {
				t.Errorf("Right of MaxCells cells with %v at %d: true", c, place)
			}
		}
	}
}

// P2.1
func TestLive(t *testing.T) {
	for _, c := range []struct {
		h    []api.Cell
		want []int
	}{
		{[]api.Cell{free}, nil},
		{[]api.Cell{live(0)}, []int{0}},
		{[]api.Cell{free, live(0)}, []int{1}},
		{[]api.Cell{live(4), free, live(-9), live(0), free}, []int{0, 2, 3}},
		{[]api.Cell{live(greatest), live(least)}, []int{0, 1}},
		{make([]api.Cell, api.MaxCells), nil},
		{with(make([]api.Cell, api.MaxCells), 63, live(1)), []int{63}},
	} {
		if got := Live(c.h); !slices.Equal(got, c.want) {
			t.Errorf("Live(%v) = %v, want %v", brief(c.h), got, c.want)
		}
	}
	all := Live(allLive(api.MaxCells))
	if len(all) != api.MaxCells || !slices.IsSorted(all) || all[0] != 0 || all[api.MaxCells-1] != api.MaxCells-1 {
		t.Errorf("Live of MaxCells live cells = %v", all)
	}
}

// P2.1
func TestLiveOfNoHeap(t *testing.T) {
	for _, h := range wrongHeaps() {
		if got := Live(h); len(got) != 0 {
			t.Errorf("Live of no heap, %d cells %v: %d numbers", len(h), brief(h), len(got))
		}
	}
}

// P2.2: ErrArg comes ahead of whatever else is wrong.
func TestNoHeapIsErrArg(t *testing.T) {
	numbers := []int{0, 1, 63, 64, -1, math.MinInt, math.MaxInt}
	for _, h := range wrongHeaps() {
		for _, v := range append(rightValues(), wrongValues()...) {
			if g, at, e := Alloc(h, v); e != api.ErrArg || at != 0 || !slices.Equal(g, h) {
				t.Errorf("Alloc of %d cells %v: %v, %d, %d", len(h), brief(h), brief(g), at, e)
			}
		}
		for _, cell := range numbers {
			if g, e := Free(h, cell); e != api.ErrArg || !slices.Equal(g, h) {
				t.Errorf("Free of %d cells %v, %d: %v, %d", len(h), brief(h), cell, brief(g), e)
			}
			if v, e := Get(h, cell); e != api.ErrArg || v != 0 {
				t.Errorf("Get of %d cells %v, %d: %d, %d", len(h), brief(h), cell, v, e)
			}
			if g, e := Put(h, write(cell, 1)); e != api.ErrArg || !slices.Equal(g, h) {
				t.Errorf("Put of %d cells %v, %d: %v, %d", len(h), brief(h), cell, brief(g), e)
			}
		}
		if g, e := Put(h); e != api.ErrArg || !slices.Equal(g, h) {
			t.Errorf("Put of nothing, %d cells %v: %v, %d", len(h), brief(h), brief(g), e)
		}
	}
}

// P2.2: the chapter's example.
func TestAllocOfTwoCells(t *testing.T) {
	h, _ := New(2)
	h, first, e1 := Alloc(h, 5)
	h, second, e2 := Alloc(h, -6)
	if first != 0 || second != 1 || e1 != api.OK || e2 != api.OK {
		t.Fatalf("Alloc twice: %d, %d and %d, %d", first, e1, second, e2)
	}
	g, third, e3 := Alloc(h, 7)
	if third != 0 || e3 != api.ErrFull || !slices.Equal(g, []api.Cell{live(5), live(-6)}) {
		t.Errorf("Alloc a third time: %v, %d, %d", g, third, e3)
	}
}

// P2.2
func TestAllocTakesTheLeast(t *testing.T) {
	for _, c := range []struct {
		h    []api.Cell
		want int
	}{
		{[]api.Cell{free}, 0},
		{[]api.Cell{free, free}, 0},
		{[]api.Cell{live(0), free, free}, 1},
		{[]api.Cell{free, live(0), free}, 0},
		{[]api.Cell{live(3), live(0), free, live(4), free}, 2},
		{make([]api.Cell, api.MaxCells), 0},
		{with(allLive(api.MaxCells), 63, free), 63},
		{with(with(allLive(api.MaxCells), 63, free), 31, free), 31},
	} {
		for _, v := range rightValues() {
			g, at, e := Alloc(c.h, v)
			if e != api.OK || at != c.want {
				t.Fatalf("Alloc(%v, %d): %d, %d, want %d", brief(c.h), v, at, e, c.want)
			}
			if want := with(c.h, c.want, live(v)); !slices.Equal(g, want) {
				t.Errorf("Alloc(%v, %d): %v, want %v", brief(c.h), v, g, want)
			}
		}
	}
}

// P2.2
func TestAllocTillFull(t *testing.T) {
	for _, n := range []int{1, 2, api.MaxCells - 1, api.MaxCells} {
		h, _ := New(n)
		for i := range n {
			g, at, e := Alloc(h, 100+i)
			if at != i || e != api.OK {
				t.Fatalf("Alloc %d of %d cells: %d, %d", i, n, at, e)
			}
			h = g
		}
		if g, at, e := Alloc(h, 0); at != 0 || e != api.ErrFull || !slices.Equal(g, allLive(n)) {
			t.Errorf("Alloc of %d live cells: %v, %d, %d", n, g, at, e)
		}
	}
}

// P2.2: no value is ErrArg, of a full heap too.
func TestAllocOfNoValue(t *testing.T) {
	for _, h := range rightHeaps() {
		for _, v := range wrongValues() {
			if g, at, e := Alloc(h, v); e != api.ErrArg || at != 0 || !slices.Equal(g, h) {
				t.Errorf("Alloc(%v, %d): %v, %d, %d", brief(h), v, brief(g), at, e)
			}
		}
	}
}

// P2.2
func TestFreeAndGetOfLiveCells(t *testing.T) {
	for _, h := range rightHeaps() {
		for _, cell := range liveCells(h) {
			if v, e := Get(h, cell); e != api.OK || v != h[cell].Value {
				t.Errorf("Get(%v, %d): %d, %d", brief(h), cell, v, e)
			}
			g, e := Free(h, cell)
			if e != api.OK || !slices.Equal(g, with(h, cell, free)) {
				t.Errorf("Free(%v, %d): %v, %d", brief(h), cell, brief(g), e)
			}
			if !Right(g) {
				t.Errorf("Free(%v, %d): %v is no heap", brief(h), cell, brief(g))
			}
		}
	}
}

// P2.2
func TestFreeAndGetOfNoCells(t *testing.T) {
	for _, h := range rightHeaps() {
		for _, cell := range noCells(h) {
			if g, e := Free(h, cell); e != api.ErrNone || !slices.Equal(g, h) {
				t.Errorf("Free(%v, %d): %v, %d", brief(h), cell, brief(g), e)
			}
			if v, e := Get(h, cell); e != api.ErrNone || v != 0 {
				t.Errorf("Get(%v, %d): %d, %d", brief(h), cell, v, e)
			}
		}
	}
}

// P2.2
func TestPut(t *testing.T) {
	h := []api.Cell{live(1), free, live(3), live(0)}
	for _, c := range []struct {
		name string
		l    []api.Write
		want []api.Cell
	}{
		{"nothing", nil, h},
		{"an empty list", []api.Write{}, h},
		{"one", []api.Write{write(2, -5)}, []api.Cell{live(1), free, live(-5), live(0)}},
		{"the ends", []api.Write{write(0, least), write(3, greatest)}, []api.Cell{live(least), free, live(3), live(greatest)}},
		{"0", []api.Write{write(0, 0)}, []api.Cell{live(0), free, live(3), live(0)}},
		{"one twice", []api.Write{write(2, 8), write(2, 4)}, []api.Cell{live(1), free, live(4), live(0)}},
		{"one twice, falling and rising", []api.Write{write(0, 4), write(0, 8)}, []api.Cell{live(8), free, live(3), live(0)}},
		{"one back to what it was", []api.Write{write(2, 8), write(2, 3)}, h},
		{"one thrice, with others between",
			[]api.Write{write(3, 1), write(0, 10), write(3, 2), write(2, 20), write(3, 0)},
			[]api.Cell{live(10), free, live(20), live(0)}},
		{"all, falling", []api.Write{write(3, 30), write(2, 20), write(0, 10)}, []api.Cell{live(10), free, live(20), live(30)}},
	} {
		if g, e := Put(h, c.l...); e != api.OK || !slices.Equal(g, c.want) {
			t.Errorf("Put of %s: %v, %d, want %v", c.name, g, e, c.want)
		}
	}
}

// P2.2: nothing bounds how many writes there are; the last one of a cell holds.
func TestPutOfManyWrites(t *testing.T) {
	h := allLive(api.MaxCells)
	var l []api.Write
	want := slices.Clone(h)
	for i := range 10 * api.MaxCells {
		w := write(i*7%api.MaxCells, i)
		l = append(l, w)
		want[w.Cell].Value = i
	}
	if g, e := Put(h, l...); e != api.OK || !slices.Equal(g, want) {
		t.Errorf("Put of %d writes: %v, %d", len(l), g, e)
	}
}

// P2.2, P2.3: one wrong write, wherever it stands, and nothing is written.
func TestPutIsAllOrNothing(t *testing.T) {
	for _, h := range rightHeaps() {
		var good []api.Write
		for _, cell := range liveCells(h) {
			good = append(good, write(cell, 77))
		}
		for place := range len(good) + 1 {
			for _, cell := range noCells(h) {
				l := slices.Insert(slices.Clone(good), place, write(cell, 1))
				if g, e := Put(h, l...); e != api.ErrNone || !slices.Equal(g, h) {
					t.Fatalf("Put of %v with no cell %d at %d: %v, %d", brief(h), cell, place, brief(g), e)
				}
			}
			for _, v := range wrongValues() {
				l := slices.Insert(slices.Clone(good), place, write(0, v))
				if g, e := Put(h, l...); e != api.ErrArg || !slices.Equal(g, h) {
					t.Fatalf("Put of %v with no value %d at %d: %v, %d", brief(h), v, place, brief(g), e)
				}
			}
		}
	}
}

// P2.2: a wrong write that a right one of the same cell follows is wrong still.
func TestPutLooksAtWhatIsWrittenOver(t *testing.T) {
	h := []api.Cell{live(1), live(2)}
	if g, e := Put(h, write(0, greatest+1), write(0, 5)); e != api.ErrArg || !slices.Equal(g, h) {
		t.Errorf("Put of no value, written over: %v, %d", g, e)
	}
}

// P2.2: no value comes ahead of no cell, in whatever order they stand.
func TestPutTellsErrArgFirst(t *testing.T) {
	for _, h := range rightHeaps() {
		for _, cell := range noCells(h) {
			for _, l := range [][]api.Write{
				{write(cell, greatest+1)},
				{write(cell, 1), write(cell, least-1)},
				{write(cell, least-1), write(cell, 1)},
				{write(cell, 1), write(0, turn)},
				{write(0, turn), write(cell, 1)},
			} {
				if g, e := Put(h, l...); e != api.ErrArg || !slices.Equal(g, h) {
					t.Errorf("Put(%v, %v): %v, %d", brief(h), l, brief(g), e)
				}
			}
		}
	}
}

// P2.3: what is freed comes first again, behind whatever was not live ahead.
func TestFreedComesFirstAgain(t *testing.T) {
	for _, n := range []int{1, 2, api.MaxCells} {
		full := allLive(n)
		for cell := range n {
			h, _ := Free(full, cell)
			g, at, e := Alloc(h, -1)
			if at != cell || e != api.OK || !slices.Equal(g, with(full, cell, live(-1))) {
				t.Errorf("of %d cells %d is freed, and Alloc tells %d, %d", n, cell, at, e)
			}
		}
	}
	h := allLive(6)
	for _, cell := range []int{4, 1, 3} {
		h, _ = Free(h, cell)
	}
	for _, want := range []int{1, 3, 4} {
		g, at, e := Alloc(h, 0)
		if at != want || e != api.OK {
			t.Errorf("4, 1 and 3 are freed, and Alloc tells %d, %d, want %d", at, e, want)
		}
		h = g
	}
}

// P2.3: a freed cell keeps no value for who gets it next, nor for who asks.
func TestFreedIsGone(t *testing.T) {
	h, _ := Free([]api.Cell{live(9), live(8)}, 0)
	if _, e := Get(h, 0); e != api.ErrNone {
		t.Errorf("Get of what is freed: %d", e)
	}
	if _, e := Free(h, 0); e != api.ErrNone {
		t.Errorf("Free of what is freed: %d", e)
	}
	if _, e := Put(h, write(0, 1)); e != api.ErrNone {
		t.Errorf("Put of what is freed: %d", e)
	}
	h, _, _ = Alloc(h, 0)
	if v, e := Get(h, 0); v != 0 || e != api.OK {
		t.Errorf("Get of what is got again with 0: %d, %d", v, e)
	}
}

// call is one call of those that answer cells.
type call struct {
	name string
	do   func(h []api.Cell) []api.Cell
}

// calls are those that answer cells, with arguments right and wrong.
func calls() []call {
	var all []call
	for _, v := range []int{3, greatest + 1} {
		all = append(all, call{"Alloc", func(h []api.Cell) []api.Cell { g, _, _ := Alloc(h, v); return g }})
	}
	for _, cell := range []int{0, 1, 63, -1, 64} {
		all = append(all,
			call{"Free", func(h []api.Cell) []api.Cell { g, _ := Free(h, cell); return g }},
			call{"Put", func(h []api.Cell) []api.Cell { g, _ := Put(h, write(0, 44), write(cell, 55)); return g }},
			call{"Put", func(h []api.Cell) []api.Cell { g, _ := Put(h, write(0, 44), write(cell, turn)); return g }},
		)
	}
	all = append(all, call{"Put", func(h []api.Cell) []api.Cell { g, _ := Put(h); return g }})
	return all
}

// R1: the cells stay as they were, those behind the end of the list too, and
// the answer is memory of its own, so that neither side is written through it.
func TestCellsStayAsTheyWere(t *testing.T) {
	for _, was := range append(rightHeaps(), wrongHeaps()...) {
		for _, c := range calls() {
			room := append(slices.Clone(was), live(71), live(72), live(73))
			given := room[:len(was)]
			answer := c.do(given)
			told := slices.Clone(answer)
			behind := append(answer, live(1))
			for i := range behind {
				behind[i] = live(-1234)
			}
			for i := range answer {
				answer[i] = live(-1234)
			}
			if !slices.Equal(given, was) || !slices.Equal(room[len(was):], []api.Cell{live(71), live(72), live(73)}) {
				t.Fatalf("%s changed %v into %v", c.name, brief(was), brief(given))
			}
			answer = c.do(given)
			for i := range room {
				room[i] = live(-4321)
			}
			if !slices.Equal(answer, told) {
				t.Fatalf("%s of %v kept what it was handed", c.name, brief(was))
			}
		}
	}
}

// R1: so do those that answer no cells.
func TestLookingChangesNothing(t *testing.T) {
	for _, was := range append(rightHeaps(), wrongHeaps()...) {
		given := slices.Clone(was)
		Right(given)
		numbers := Live(given)
		for i := range numbers {
			numbers[i] = -1
		}
		for _, cell := range []int{0, 1, 63, -1, 64} {
			Get(given, cell)
		}
		if !slices.Equal(given, was) {
			t.Fatalf("%v became %v", brief(was), brief(given))
		}
		if Right(was) && !slices.Equal(Live(given), liveCells(was)) {
			t.Fatalf("Live of %v told %v the second time", brief(was), Live(given))
		}
	}
}

// R1
func TestWritesStayAsTheyWere(t *testing.T) {
	h := []api.Cell{live(1), free, live(3)}
	for _, was := range [][]api.Write{
		{write(2, 5), write(0, 6), write(2, 4)},
		{write(2, 5), write(1, 6)},
		{write(2, 5), write(0, turn)},
		{write(-1, turn), write(9, 1)},
	} {
		room := append(slices.Clone(was), write(0, 71))
		given := room[:len(was)]
		Put(h, given...)
		if !slices.Equal(given, was) || room[len(was)] != write(0, 71) {
			t.Errorf("Put changed %v into %v", was, room)
		}
	}
}

// R4: what is answered hangs on nothing but what is given.
func TestNewIsNewEachTime(t *testing.T) {
	a, _ := New(2)
	a[0] = live(5)
	if b, e := New(2); e != api.OK || !slices.Equal(b, []api.Cell{free, free}) {
		t.Errorf("New(2) once more: %v, %d", b, e)
	}
}

// book is a heap told another way: the live cells alone, by their numbers.
type book struct {
	size  int
	cells map[int]int
}

func (b book) same(h []api.Cell) bool {
	if len(h) != b.size {
		return false
	}
	for number, c := range h {
		v, live := b.cells[number]
		if c.Live != live || c.Value != v {
			return false
		}
	}
	return true
}

func (b book) copy() book { return book{b.size, maps.Clone(b.cells)} }

func (b book) alloc(value int) (book, int, api.Errno) {
	for number := range b.size {
		if _, live := b.cells[number]; !live {
			b = b.copy()
			b.cells[number] = value
			return b, number, api.OK
		}
	}
	return b, 0, api.ErrFull
}

func (b book) free(cell int) (book, api.Errno) {
	if _, live := b.cells[cell]; !live {
		return b, api.ErrNone
	}
	b = b.copy()
	delete(b.cells, cell)
	return b, api.OK
}

func (b book) put(l ...api.Write) (book, api.Errno) {
	after := b.copy()
	for _, w := range l {
		if _, live := b.cells[w.Cell]; !live {
			return b, api.ErrNone
		}
		after.cells[w.Cell] = w.Value
	}
	return after, api.OK
}

// walk does each call on h and b side by side, and goes on from each answer.
func walk(t *testing.T, h []api.Cell, b book, steps int) {
	check := func(name string, g []api.Cell, got api.Errno, after book, want api.Errno) {
		if got != want || !after.same(g) || !Right(g) || len(Live(g)) != len(after.cells) {
			t.Fatalf("%s of %v: %v, %d, want %v, %d", name, h, g, got, after.cells, want)
		}
		if steps > 1 && got == api.OK {
			walk(t, g, after, steps-1)
		}
	}
	for _, v := range []int{least, greatest} {
		g, at, got := Alloc(h, v)
		after, place, want := b.alloc(v)
		if at != place {
			t.Fatalf("Alloc of %v: %d, want %d", h, at, place)
		}
		check("Alloc", g, got, after, want)
	}
	for cell := -1; cell <= len(h); cell++ {
		if v, e := Get(h, cell); v != b.cells[cell] || (e == api.OK) != (slices.Contains(Live(h), cell)) {
			t.Fatalf("Get of %v, %d: %d, %d", h, cell, v, e)
		}
		g, got := Free(h, cell)
		after, want := b.free(cell)
		check("Free", g, got, after, want)
		for other := range len(h) {
			l := []api.Write{write(other, 6), write(cell, 7)}
			g, got := Put(h, l...)
			after, want := b.put(l...)
			check("Put", g, got, after, want)
		}
	}
}

// P2.1 to P2.3: every run of a few calls on a few cells.
func TestEveryShortRun(t *testing.T) {
	for size, steps := range map[int]int{1: 6, 2: 5, 3: 5} {
		h, _ := New(size)
		walk(t, h, book{size, map[int]int{}}, steps)
	}
}
