package writes

import (
	"math"
	"slices"
	"testing"

	"handshaker/api"
)

const (
	least    = -api.MaxValue - 1
	greatest = api.MaxValue
	turn     = 1 << 32
)

func write(cell, value int) api.Write { return api.Write{Cell: cell, Value: value} }

// falling is n writes, of the cells n-1 to 0, of unlike values.
func falling(n int) []api.Write {
	var list []api.Write
	for cell := n - 1; cell >= 0; cell-- {
		list = append(list, write(cell, 100-cell))
	}
	return list
}

func with(list []api.Write, place int, w api.Write) []api.Write {
	list = slices.Clone(list)
	list[place] = w
	return list
}

func same(a, b Log) bool {
	return slices.Equal(a.List, b.List) && slices.Equal(a.Marks, b.Marks)
}

func copied(l Log) Log {
	return Log{append([]api.Write(nil), l.List...), append([]int(nil), l.Marks...)}
}

// brief keeps the logs of many writes out of the tests' messages.
func brief(l Log) Log {
	return Log{l.List[:min(len(l.List), 6)], l.Marks[:min(len(l.Marks), 8)]}
}

// rightWrites are each right alone: a cell or a value at its end.
func rightWrites() []api.Write {
	return []api.Write{
		write(0, 0), write(5, 50), write(63, -7), write(64, -7), write(255, 1), write(256, 1),
		write(1<<31-1, 1), write(1<<31, 1), write(turn, 1), write(turn+5, 1), write(math.MaxInt-1, 1), write(math.MaxInt, 1),
		write(3, least), write(3, least+1), write(3, -1), write(3, 1), write(3, greatest-1), write(3, greatest),
		write(0, least), write(math.MaxInt, greatest), write(math.MaxInt, least),
	}
}

// wrongWrites have one thing each that may not be, such as comes back to a right
// one if it is cut to fewer bits among them.
func wrongWrites() []api.Write {
	var all []api.Write
	for _, cell := range wrongCells() {
		all = append(all, write(cell, 50))
	}
	for _, value := range []int{least - 1, least - 2, greatest + 1, greatest + 2, turn, turn + 50, -turn, -turn + 50, math.MinInt, math.MaxInt} {
		all = append(all, write(5, value))
	}
	return all
}

func wrongCells() []int {
	return []int{-1, -2, -api.MaxCells, -turn, -turn + 5, math.MinInt, math.MinInt + 1, math.MinInt + 5}
}

// rightLogs are logs of no writes, of some, and of MaxSet, with no mark, with
// some, and with MaxMarks.
func rightLogs() []Log {
	all := []Log{
		{},
		{[]api.Write{}, []int{}},
		{nil, []int{0}},
		{nil, []int{0, 0}},
		{nil, []int{0, 0, 0, 0, 0, 0}},
		{[]api.Write{write(3, 1), write(3, 2)}, nil},
		{[]api.Write{write(3, 1), write(3, 1)}, []int{1}},
		{[]api.Write{write(3, 1), write(0, 2), write(3, 3)}, []int{0}},
		{[]api.Write{write(3, 1), write(0, 2), write(3, 3)}, []int{3}},
		{[]api.Write{write(3, 1), write(0, 2), write(3, 3)}, []int{1, 2}},
		{[]api.Write{write(3, 1), write(0, 2), write(3, 3)}, []int{2, 2}},
		{[]api.Write{write(3, 1), write(0, 2), write(3, 3)}, []int{0, 0, 1, 2, 3, 3}},
		{[]api.Write{write(math.MaxInt, 1), write(0, least), write(turn, greatest), write(math.MaxInt, 2)}, []int{1, 3}},
		{falling(api.MaxSet - 1), []int{2, 23}},
		{falling(api.MaxSet), nil},
		{falling(api.MaxSet), []int{24}},
		{falling(api.MaxSet), []int{0, 0, 5, 23, 24}},
		{falling(api.MaxSet), []int{24, 24, 24, 24, 24, 24}},
		{falling(api.MaxSet), []int{0, 0, 0, 0, 0, 0}},
		{slices.Repeat([]api.Write{write(3, 1)}, api.MaxSet), []int{7}},
		{with(falling(api.MaxSet), 0, write(math.MaxInt, least)), []int{0, 5, 10, 15, 20}},
		{with(falling(api.MaxSet), api.MaxSet-1, write(math.MaxInt, greatest)), []int{1, 6, 11, 16, 21, 24}},
	}
	for _, w := range rightWrites() {
		all = append(all, Log{[]api.Write{w}, nil}, Log{[]api.Write{w}, []int{0, 1}})
	}
	return all
}

// wrongLogs have one thing each that may not be: too many writes, too many marks,
// a wrong write at each end, or a wrong mark.
func wrongLogs() []Log {
	three := []api.Write{write(3, 1), write(0, 2), write(3, 3)}
	var all []Log
	for _, n := range []int{api.MaxSet + 1, api.MaxSet + 2, 2 * api.MaxSet, 256, 256 + 1, 1<<16 + 1} {
		all = append(all, Log{falling(n), nil}, Log{falling(n), []int{0, 3, 24}}, Log{slices.Repeat(three[:1], n), []int{1}})
	}
	for _, n := range []int{MaxMarks + 1, MaxMarks + 2, 2 * MaxMarks, 256, 256 + 1, 1<<16 + 1} {
		all = append(all, Log{nil, make([]int, n)}, Log{three, make([]int, n)}, Log{three, slices.Repeat([]int{3}, n)})
	}
	for _, w := range wrongWrites() {
		all = append(all,
			Log{[]api.Write{w}, nil},
			Log{[]api.Write{w, write(7, 1), write(1, 2)}, []int{1}},
			Log{[]api.Write{write(7, 1), write(1, 2), w}, []int{2, 3}},
		)
	}
	for _, mark := range []int{-1, -2, -3, 4, 5, api.MaxSet, 256, turn, turn + 2, -turn + 2, math.MinInt, math.MinInt + 2, math.MaxInt} {
		all = append(all, Log{three, []int{mark}}, Log{three, []int{mark, 3}}, Log{three, []int{0, mark}}, Log{three, []int{0, 0, 1, 2, 3, mark}})
	}
	for _, marks := range [][]int{
		{1, 0}, {3, 2}, {3, 0}, {2, 1, 2}, {0, 2, 1}, {1, 0, 3}, {0, 3, 0, 3}, {0, 1, 2, 3, 3, 2}, {1, 0, 0, 0, 0, 0},
	} {
		all = append(all, Log{three, marks})
	}
	return append(all,
		Log{nil, []int{1}}, Log{nil, []int{-1}}, Log{nil, []int{0, 0, 1}},
		Log{falling(api.MaxSet), []int{25}}, Log{falling(api.MaxSet), []int{24, 23}},
		Log{falling(api.MaxSet - 1), []int{24}}, Log{falling(api.MaxSet), []int{-1, 24}},
	)
}

// P6.1
func TestRightOfLogs(t *testing.T) {
	for _, l := range rightLogs() {
		if !Right(l) {
			t.Errorf("Right of %d writes, %v: false", len(l.List), brief(l))
		}
	}
}

// P6.1
func TestRightOfNoLogs(t *testing.T) {
	for _, l := range wrongLogs() {
		if Right(l) {
			t.Errorf("Right of %d writes and %d marks, %v: true", len(l.List), len(l.Marks), brief(l))
		}
	}
}

// P6.1: how many writes and how many marks there may be.
func TestRightOfEachLength(t *testing.T) {
	for n := range 2 * 24 {
		for marks := range 2 * 6 {
			l := Log{falling(n), slices.Repeat([]int{n}, marks)}
			if got := Right(l); got != (n <= 24 && marks <= 6) {
				t.Errorf("Right of %d writes and %d marks: %v", n, marks, got)
			}
		}
	}
}

// P6.1: a write is looked at wherever it stands; whose cell it is does not matter.
func TestRightLooksAtEachWrite(t *testing.T) {
	for place := range api.MaxSet {
		for _, w := range wrongWrites() {
			if Right(Log{with(falling(api.MaxSet), place, w), []int{24}}) {
				t.Errorf("Right of MaxSet writes with %v at %d: true", w, place)
			}
		}
		for _, w := range append(rightWrites(), falling(api.MaxSet)...) {
			if !Right(Log{with(falling(api.MaxSet), place, w), []int{24}}) {
				t.Errorf("Right of MaxSet writes with %v at %d: false", w, place)
			}
		}
	}
}

// P6.1: all lists of up to three marks, of up to three writes.
func TestRightOfAllSmallMarks(t *testing.T) {
	for n := range 4 {
		var grow func(marks []int)
		grow = func(marks []int) {
			want := slices.IsSorted(marks) && !slices.ContainsFunc(marks, func(m int) bool { return m < 0 || m > n })
			if got := Right(Log{falling(n), marks}); got != want {
				t.Errorf("Right of %d writes and the marks %v: %v", n, marks, got)
			}
			if len(marks) == 3 {
				return
			}
			for mark := -2; mark <= 5; mark++ {
				grow(append(slices.Clone(marks), mark))
			}
		}
		grow(nil)
	}
}

// P6.1: each mark of MaxMarks is held against the one ahead of it.
func TestRightLooksAtEachMark(t *testing.T) {
	for place := range MaxMarks {
		for mark := -3; mark <= api.MaxSet+3; mark++ {
			marks := []int{4, 8, 8, 12, 16, 20}
			low, high := 0, api.MaxSet
			if place > 0 {
				low = marks[place-1]
			}
			if place < MaxMarks-1 {
				high = marks[place+1]
			}
			marks[place] = mark
			if got := Right(Log{falling(api.MaxSet), marks}); got != (low <= mark && mark <= high) {
				t.Errorf("Right of MaxSet writes and the marks %v: %v", marks, got)
			}
		}
	}
}

// P6.1: what may be put comes behind, of a cell that is there already too, and
// the marks stay.
func TestPut(t *testing.T) {
	for _, l := range rightLogs() {
		if len(l.List) == 24 {
			continue
		}
		for _, w := range append(rightWrites(), l.List...) {
			want := Log{append(slices.Clone(l.List), w), l.Marks}
			if got, e := Put(l, w); e != api.OK || !same(got, want) {
				t.Errorf("Put(%v, %v): %v, %d", brief(l), w, brief(got), e)
			}
		}
	}
}

// P6.1: at one below MaxSet there is room for one more, at MaxSet for none, of a
// cell that is there already neither.
func TestPutTillBig(t *testing.T) {
	var l Log
	for n := range 24 {
		w := write(7*n%5, -n)
		got, e := Put(l, w)
		if e != api.OK || !slices.Equal(got.List, append(slices.Clone(l.List), w)) {
			t.Fatalf("Put of %v to %d writes: %v, %d", w, n, brief(got), e)
		}
		l = got
	}
	for _, full := range []Log{l, {falling(24), []int{0, 24}}, {falling(24), []int{1, 2, 3, 4, 5, 6}}} {
		for _, w := range append(rightWrites(), full.List...) {
			if got, e := Put(full, w); e != api.ErrBig || !same(got, full) {
				t.Errorf("Put of %v to 24 writes: %d writes, %d", w, len(got.List), e)
			}
		}
	}
}

// P6.1: ErrArg comes ahead of ErrBig.
func TestPutOfNoWrite(t *testing.T) {
	for _, l := range rightLogs() {
		for _, w := range wrongWrites() {
			if got, e := Put(l, w); e != api.ErrArg || !same(got, l) {
				t.Errorf("Put of %v to %d writes, %v: %v, %d", w, len(l.List), brief(l), brief(got), e)
			}
		}
	}
}

// P6.1: the value is that of the write which was put last.
func TestGet(t *testing.T) {
	l := Log{[]api.Write{write(3, 1), write(0, 2), write(3, 5), write(turn, least), write(8, 0), write(9, 4), write(9, 4), write(0, greatest), write(3, -6)}, []int{1, 3, 8}}
	for _, c := range []struct {
		cell, want int
		found      bool
	}{
		{3, -6, true}, {0, greatest, true}, {turn, least, true}, {8, 0, true}, {9, 4, true},
		{1, 0, false}, {2, 0, false}, {4, 0, false}, {7, 0, false}, {10, 0, false}, {63, 0, false}, {64, 0, false},
		{turn + 3, 0, false}, {-turn + 3, 0, false}, {turn - 1, 0, false}, {turn + 1, 0, false}, {2 * turn, 0, false},
		{-1, 0, false}, {-3, 0, false}, {-9, 0, false}, {math.MaxInt, 0, false}, {math.MinInt, 0, false}, {math.MinInt + 3, 0, false},
	} {
		if got, found := Get(l, c.cell); got != c.want || found != c.found {
			t.Errorf("Get of %d: %d, %v, want %d, %v", c.cell, got, found, c.want, c.found)
		}
	}
}

// P6.1: of each log, each cell of it, and those beside.
func TestGetOfEachLog(t *testing.T) {
	for _, l := range rightLogs() {
		values := map[int]int{}
		cells := append(wrongCells(), 0, 1, 2, 3, 6, 24, 25, 62, 65, turn, turn+3, math.MaxInt)
		for _, w := range l.List {
			values[w.Cell] = w.Value
			cells = append(cells, w.Cell, w.Cell-1)
		}
		for _, cell := range cells {
			want, written := values[cell]
			if got, found := Get(l, cell); got != want || found != written {
				t.Errorf("Get(%v, %d): %d, %v, want %d, %v", brief(l), cell, got, found, want, written)
			}
		}
	}
}

// P6.1
func TestLast(t *testing.T) {
	for _, c := range []struct{ list, want []api.Write }{
		{nil, nil},
		{[]api.Write{}, nil},
		{[]api.Write{write(0, 0)}, []api.Write{write(0, 0)}},
		{[]api.Write{write(3, 1), write(3, 2)}, []api.Write{write(3, 2)}},
		{[]api.Write{write(3, 2), write(3, 1)}, []api.Write{write(3, 1)}},
		{[]api.Write{write(3, 2), write(3, 2)}, []api.Write{write(3, 2)}},
		{[]api.Write{write(3, 1), write(0, 2), write(3, 0)}, []api.Write{write(0, 2), write(3, 0)}},
		{[]api.Write{write(4, 9), write(2, 8), write(9, 7), write(0, 6)}, []api.Write{write(0, 6), write(2, 8), write(4, 9), write(9, 7)}},
		{[]api.Write{write(4, 9), write(2, 8), write(4, 7), write(9, 6), write(2, 5), write(4, 4), write(0, 3)}, []api.Write{write(0, 3), write(2, 5), write(4, 4), write(9, 6)}},
		{
			[]api.Write{write(math.MaxInt, 1), write(turn, 2), write(1<<31, 3), write(turn, least), write(3, greatest)},
			[]api.Write{write(3, greatest), write(1<<31, 3), write(turn, least), write(math.MaxInt, 1)},
		},
		{slices.Repeat([]api.Write{write(5, 1), write(4, 2)}, 12), []api.Write{write(4, 2), write(5, 1)}},
	} {
		for _, marks := range [][]int{nil, {0}, {0, len(c.list)}, {len(c.list), len(c.list)}} {
			if got := Last(Log{c.list, marks}); !slices.Equal(got, c.want) {
				t.Errorf("Last(%v, %v): %v, want %v", c.list, marks, got, c.want)
			}
		}
	}
}

// P6.1: the chapter's example.
func TestPutOfThreeTwice(t *testing.T) {
	l, _ := Put(Log{}, write(3, 7))
	l, _ = Put(l, write(3, 4))
	if got := Last(l); !slices.Equal(got, []api.Write{write(3, 4)}) {
		t.Errorf("Last: %v", got)
	}
}

// P6.1: every list of up to six writes, of up to four cells, beside a book of the
// last value of each.
func TestGetAndLastOfEachOrder(t *testing.T) {
	cells := []int{0, 7, 8, 31}
	var grow func(l Log, book [4]int)
	grow = func(l Log, book [4]int) {
		var want []api.Write
		for i, value := range book {
			if value != 0 {
				want = append(want, write(cells[i], value))
			}
			if got, found := Get(l, cells[i]); got != value || found != (value != 0) {
				t.Fatalf("Get(%v, %d): %d, %v", l, cells[i], got, found)
			}
		}
		if got := Last(l); !slices.Equal(got, want) {
			t.Fatalf("Last(%v): %v, want %v", l, got, want)
		}
		if len(l.List) == 6 {
			return
		}
		for i, cell := range cells {
			next, e := Put(l, write(cell, len(l.List)+1))
			if e != api.OK {
				t.Fatalf("Put(%v, %d): %d", l, cell, e)
			}
			with := book
			with[i] = len(l.List) + 1
			grow(next, with)
		}
	}
	grow(Log{}, [4]int{})
}

// P6.1: of MaxSet writes, in no order, each of another cell, or of five.
func TestLastOfMaxSet(t *testing.T) {
	for _, cells := range []int{1, 5, 23, 24} {
		var l Log
		book := map[int]int{}
		for n := range 24 {
			cell := 63 - n*7%cells
			book[cell] = n - 12
			l.List = append(l.List, write(cell, n-12))
		}
		var want []api.Write
		for cell := range 64 {
			if value, found := book[cell]; found {
				want = append(want, write(cell, value))
			}
		}
		if got := Last(l); len(got) != cells || !slices.Equal(got, want) {
			t.Errorf("Last of %d cells: %v, want %v", cells, got, want)
		}
	}
}

// P6.2
func TestMark(t *testing.T) {
	for _, l := range rightLogs() {
		if len(l.Marks) == 6 {
			continue
		}
		want := Log{l.List, append(slices.Clone(l.Marks), len(l.List))}
		if got, e := Mark(l); e != api.OK || !same(got, want) {
			t.Errorf("Mark(%v): %v, %d", brief(l), brief(got), e)
		}
	}
}

// P6.2: at one below MaxMarks there is room for one more, at MaxMarks for none;
// that there are MaxSet writes does not matter.
func TestMarkTillBig(t *testing.T) {
	for _, n := range []int{0, 1, 5, 23, 24} {
		l := Log{List: falling(n)}
		for marks := range 6 {
			got, e := Mark(l)
			if e != api.OK || !slices.Equal(got.List, l.List) || !slices.Equal(got.Marks, slices.Repeat([]int{n}, marks+1)) {
				t.Fatalf("Mark of %d writes and %d marks: %v, %d", n, marks, brief(got), e)
			}
			l = got
		}
		if got, e := Mark(l); e != api.ErrBig || !same(got, l) {
			t.Errorf("Mark of %d writes and 6 marks: %v, %d", n, brief(got), e)
		}
	}
	rising := Log{falling(10), []int{0, 1, 2, 2, 4, 10}}
	if got, e := Mark(rising); e != api.ErrBig || !same(got, rising) {
		t.Errorf("Mark of 6 rising marks: %v, %d", brief(got), e)
	}
}

// P6.2
func TestBackAndKeep(t *testing.T) {
	list := falling(5)
	for _, c := range []struct {
		name        string
		marks, left []int
		writes      int
	}{
		{"one, with writes behind it", []int{3}, nil, 3},
		{"one, with one write behind it", []int{4}, nil, 4},
		{"one, with no write behind it", []int{5}, nil, 5},
		{"one, with all writes behind it", []int{0}, nil, 0},
		{"two, with writes behind the last one", []int{1, 3}, []int{1}, 3},
		{"two, with no write behind the last one", []int{1, 5}, []int{1}, 5},
		{"two alike, with writes behind", []int{2, 2}, []int{2}, 2},
		{"two alike, with no write behind", []int{5, 5}, []int{5}, 5},
		{"two alike at 0", []int{0, 0}, []int{0}, 0},
		{"three, the last two alike", []int{1, 4, 4}, []int{1, 4}, 4},
		{"MaxMarks", []int{0, 0, 2, 3, 3, 4}, []int{0, 0, 2, 3, 3}, 4},
		{"MaxMarks alike", []int{1, 1, 1, 1, 1, 1}, []int{1, 1, 1, 1, 1}, 1},
	} {
		l := Log{list, c.marks}
		if got, e := Back(l); e != api.OK || !same(got, Log{list[:c.writes], c.left}) {
			t.Errorf("Back, %s: %v, %d", c.name, got, e)
		}
		if got, e := Keep(l); e != api.OK || !same(got, Log{list, c.left}) {
			t.Errorf("Keep, %s: %v, %d", c.name, got, e)
		}
	}
}

// P6.2
func TestBackAndKeepOfEachLog(t *testing.T) {
	for _, l := range rightLogs() {
		n := len(l.Marks)
		back, eBack := Back(l)
		keep, eKeep := Keep(l)
		if n == 0 {
			if eBack != api.ErrNone || eKeep != api.ErrNone || !same(back, l) || !same(keep, l) {
				t.Errorf("without a mark, of %v: Back %v, %d; Keep %v, %d", brief(l), brief(back), eBack, brief(keep), eKeep)
			}
			continue
		}
		if want := (Log{l.List[:l.Marks[n-1]], l.Marks[:n-1]}); eBack != api.OK || !same(back, want) {
			t.Errorf("Back(%v): %v, %d", brief(l), brief(back), eBack)
		}
		if want := (Log{l.List, l.Marks[:n-1]}); eKeep != api.OK || !same(keep, want) {
			t.Errorf("Keep(%v): %v, %d", brief(l), brief(keep), eKeep)
		}
		if !Right(back) || !Right(keep) {
			t.Errorf("of %v Back or Keep made what is no log: %v, %v", brief(l), brief(back), brief(keep))
		}
	}
}

// P6.2: as often as there are marks, and then no more.
func TestBackAndKeepTillNone(t *testing.T) {
	l := Log{falling(24), []int{0, 3, 3, 10, 23, 24}}
	back, keep := l, l
	for n := 5; n >= 0; n-- {
		var e api.Errno
		if back, e = Back(back); e != api.OK || !same(back, Log{l.List[:l.Marks[n]], l.Marks[:n]}) {
			t.Fatalf("Back to %d marks: %v, %d", n, brief(back), e)
		}
		if keep, e = Keep(keep); e != api.OK || !same(keep, Log{l.List, l.Marks[:n]}) {
			t.Fatalf("Keep to %d marks: %v, %d", n, brief(keep), e)
		}
	}
	if got, e := Back(back); e != api.ErrNone || !same(got, back) {
		t.Errorf("Back without a mark: %v, %d", brief(got), e)
	}
	if got, e := Keep(keep); e != api.ErrNone || !same(got, keep) {
		t.Errorf("Keep without a mark: %v, %d", brief(got), e)
	}
}

// P6.1, P6.2: of what is no log they tell ErrArg, ahead of every other error, and
// it as it was; or nothing, of a cell that it has neither.
func TestCallsOfNoLog(t *testing.T) {
	for _, l := range wrongLogs() {
		if got, e := Put(l, write(1, 1)); e != api.ErrArg || !same(got, l) {
			t.Errorf("Put to no log, %v: %v, %d", brief(l), brief(got), e)
		}
		if got, e := Put(l, wrongWrites()[0]); e != api.ErrArg || !same(got, l) {
			t.Errorf("Put of no write to no log, %v: %v, %d", brief(l), brief(got), e)
		}
		if got, e := Mark(l); e != api.ErrArg || !same(got, l) {
			t.Errorf("Mark of no log, %v: %v, %d", brief(l), brief(got), e)
		}
		if got, e := Back(l); e != api.ErrArg || !same(got, l) {
			t.Errorf("Back of no log, %v: %v, %d", brief(l), brief(got), e)
		}
		if got, e := Keep(l); e != api.ErrArg || !same(got, l) {
			t.Errorf("Keep of no log, %v: %v, %d", brief(l), brief(got), e)
		}
		if got := Last(l); len(got) != 0 {
			t.Errorf("Last of no log, %v: %d writes", brief(l), len(got))
		}
		cells := []int{0, 1, 3, 5, 7, -1, math.MaxInt}
		for _, w := range brief(l).List {
			cells = append(cells, w.Cell)
		}
		for _, cell := range cells {
			if got, found := Get(l, cell); got != 0 || found {
				t.Errorf("Get of no log, %v, %d: %d, %v", brief(l), cell, got, found)
			}
		}
	}
}

// deeds are the calls that make another log of one.
func deeds() map[string]func(l Log) (Log, api.Errno) {
	return map[string]func(l Log) (Log, api.Errno){
		"Put 0": func(l Log) (Log, api.Errno) { return Put(l, write(0, len(l.List)+1)) },
		"Put 1": func(l Log) (Log, api.Errno) { return Put(l, write(1, len(l.List)+1)) },
		"wrong": func(l Log) (Log, api.Errno) { return Put(l, write(-1, 1)) },
		"Mark":  Mark,
		"Back":  Back,
		"Keep":  Keep,
	}
}

// walk goes through every run of so many calls. Its book has the log as it was
// ahead of each mark that stands: Back comes to the last of these.
func walk(t *testing.T, l Log, book []Log, steps int) {
	for name, do := range deeds() {
		got, e := do(l)
		if !Right(got) || (e != api.OK && !same(got, l)) {
			t.Fatalf("%s of %v: %v, %d", name, l, got, e)
		}
		next := slices.Clone(book)
		switch {
		case e != api.OK:
			continue
		case name == "Mark":
			next = append(next, copied(l))
		case name == "Back" && !same(got, book[len(book)-1]):
			t.Fatalf("Back of %v: %v, and it was %v", l, got, book[len(book)-1])
		case name == "Back" || name == "Keep":
			next = next[:len(next)-1]
		}
		if len(got.Marks) != len(next) {
			t.Fatalf("%s of %v: %v, with %d marks that stand", name, l, got, len(next))
		}
		if steps > 1 {
			walk(t, got, next, steps-1)
		}
	}
}

// P6.3: whatever is put, marked, kept and gone back behind a mark.
func TestBackAtAMark(t *testing.T) {
	walk(t, Log{}, nil, 6)
	walk(t, Log{List: []api.Write{write(1, 9), write(0, 8)}}, nil, 5)
	walk(t, Log{List: falling(22)}, nil, 5)
}

// P6.3: with as many marks and writes as there may be, and what was refused.
func TestBackAtEachMarkOfMaxMarks(t *testing.T) {
	var l Log
	var book []Log
	for n := range 6 {
		book = append(book, copied(l))
		l, _ = Mark(l)
		for i := range 4 {
			l, _ = Put(l, write(i*n%5, 10*n+i))
			l, _ = Put(l, write(-1, 0))
		}
	}
	if len(l.List) != 24 || len(l.Marks) != 6 {
		t.Fatalf("%d writes and %d marks", len(l.List), len(l.Marks))
	}
	l, _ = Put(l, write(0, 0))
	l, _ = Mark(l)
	for n := 5; n >= 0; n-- {
		var e api.Errno
		if l, e = Back(l); e != api.OK || !same(l, book[n]) {
			t.Fatalf("Back at the mark %d: %v, %d, and it was %v", n, l, e, book[n])
		}
		if got, want := Last(l), Last(book[n]); !slices.Equal(got, want) {
			t.Errorf("Last, back at the mark %d: %v, and it was %v", n, got, want)
		}
	}
}

// P6.3: of each log that has room for a mark, with another one set behind that
// and kept, or gone back to.
func TestBackAtAMarkOfEachLog(t *testing.T) {
	for _, l := range rightLogs() {
		marked, e := Mark(l)
		if e != api.OK {
			continue
		}
		put, _ := Put(marked, write(3, 77))
		again, _ := Mark(put)
		more, _ := Put(again, write(3, 78))
		if len(again.Marks) > len(put.Marks) {
			kept, _ := Keep(more)
			gone, _ := Back(more)
			for _, x := range []Log{kept, gone} {
				if got, e := Back(x); e != api.OK || !same(got, l) {
					t.Errorf("Back of %v: %v, %d, and it was %v", brief(x), brief(got), e, brief(l))
				}
			}
		}
		for _, x := range []Log{marked, put} {
			if got, e := Back(x); e != api.OK || !same(got, l) {
				t.Errorf("Back of %v: %v, %d, and it was %v", brief(x), brief(got), e, brief(l))
			}
		}
	}
}

// spoil writes into all that a log has, and behind it.
func spoil(l Log) {
	for i := range l.List {
		l.List[i] = write(-1234, -1234)
	}
	for i := range l.Marks {
		l.Marks[i] = -1234
	}
	_ = append(l.List, write(-1234, -1234))
	_ = append(l.Marks, -1234)
}

// R1: the log stays as it was, what is behind the ends of its lists too, and the
// answer is memory of its own, so that neither side is written through it.
func TestLogsStayAsTheyWere(t *testing.T) {
	spare := Log{[]api.Write{write(71, 1), write(72, 2)}, []int{81, 82}}
	calls := deeds()
	calls["big"] = func(l Log) (Log, api.Errno) { return Put(l, write(1, turn)) }
	for _, was := range append(rightLogs(), wrongLogs()...) {
		for name, do := range calls {
			room := Log{append(slices.Clone(was.List), spare.List...), append(slices.Clone(was.Marks), spare.Marks...)}
			given := Log{room.List[:len(was.List)], room.Marks[:len(was.Marks)]}
			answer, _ := do(given)
			told := copied(answer)
			spoil(answer)
			behind := Log{room.List[len(was.List):], room.Marks[len(was.Marks):]}
			if !same(given, was) || !same(behind, spare) {
				t.Fatalf("%s changed %v into %v", name, brief(was), brief(given))
			}
			answer, _ = do(given)
			spoil(room)
			if !same(answer, told) {
				t.Fatalf("%s of %v kept what it was handed", name, brief(was))
			}
		}
	}
}

// R1: two logs that are made of one do not reach into each other.
func TestTwoLogsOfOne(t *testing.T) {
	for _, l := range rightLogs() {
		back, e := Back(l)
		if e != api.OK {
			continue
		}
		was := copied(back)
		first, _ := Put(back, write(1, 11))
		told := copied(first)
		second, _ := Put(back, write(2, 22))
		marked, _ := Mark(back)
		other, _ := Mark(second)
		if !same(first, told) || !same(back, was) {
			t.Errorf("of %v: %v became %v", brief(was), brief(told), brief(first))
		}
		if n := len(back.Marks); marked.Marks[n] != len(back.List) || other.Marks[n] != len(second.List) {
			t.Errorf("of %v: the marks %v and %v", brief(was), marked.Marks, other.Marks)
		}
	}
}

// R1, R4: those that answer no log change nothing, and tell the same again.
func TestLookingChangesNothing(t *testing.T) {
	for _, was := range append(rightLogs(), wrongLogs()...) {
		given := copied(was)
		right := Right(given)
		value, found := Get(given, 3)
		first := Last(given)
		told := slices.Clone(first)
		for i := range first {
			first[i] = write(-1, -1)
		}
		if !same(given, was) {
			t.Fatalf("%v became %v", brief(was), brief(given))
		}
		if again := Last(given); !slices.Equal(again, told) {
			t.Fatalf("Last of %v told %v the second time", brief(was), again)
		}
		if v, f := Get(given, 3); v != value || f != found || Right(given) != right {
			t.Fatalf("Get or Right of %v told something else the second time", brief(was))
		}
	}
}
