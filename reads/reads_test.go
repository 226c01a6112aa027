package reads

import (
	"math"
	"slices"
	"testing"

	"handshaker/api"
	"handshaker/stripe"
)

const (
	last     = api.MaxClock
	least    = -api.MaxValue - 1
	greatest = api.MaxValue
	turn     = 1 << 32
)

func read(cell, version, value int) api.Read {
	return api.Read{Cell: cell, Version: version, Value: value}
}

func rec(version, owner int) api.Record { return api.Record{Version: version, Owner: owner} }

func live(value int) api.Cell { return api.Cell{Live: true, Value: value} }

// falling is n reads, of the cells n-1 to 0, of unlike versions and values.
func falling(n int) []api.Read {
	var l []api.Read
	for cell := n - 1; cell >= 0; cell-- {
		l = append(l, read(cell, 100+cell, -cell))
	}
	return l
}

func with(l []api.Read, place int, r api.Read) []api.Read {
	l = slices.Clone(l)
	l[place] = r
	return l
}

// rightReads are each right alone: a cell, a version or a value at its end.
func rightReads() []api.Read {
	return []api.Read{
		read(0, 0, 0), read(5, 2, 50), read(1, 3, 10), read(63, 7, -7), read(64, 7, -7), read(255, 1, 1), read(256, 1, 1),
		read(1<<31-1, 1, 1), read(1<<31, 1, 1), read(turn, 1, 1), read(turn+5, 1, 1), read(math.MaxInt-1, 1, 1), read(math.MaxInt, 1, 1),
		read(3, 1, 4), read(3, last-1, 4), read(3, last, 4),
		read(3, 4, least), read(3, 4, least+1), read(3, 4, -1), read(3, 4, 1), read(3, 4, greatest-1), read(3, 4, greatest),
		read(0, last, least), read(math.MaxInt, last, greatest), read(math.MaxInt, 0, least),
	}
}

// wrongReads have one thing each that may not be, such as comes back to a right
// one if it is cut to fewer bits among them.
func wrongReads() []api.Read {
	var all []api.Read
	for _, cell := range wrongCells() {
		all = append(all, read(cell, 2, 50))
	}
	for _, version := range []int{-1, -2, -last, -last - 1, last + 1, last + 2, turn, turn + 2, -turn + 2, math.MinInt, math.MinInt + 1, math.MaxInt} {
		all = append(all, read(5, version, 50))
	}
	for _, value := range []int{least - 1, least - 2, greatest + 1, greatest + 2, turn, turn + 50, -turn, -turn + 50, math.MinInt, math.MaxInt} {
		all = append(all, read(5, 2, value))
	}
	return all
}

func wrongCells() []int {
	return []int{-1, -2, -api.MaxCells, -turn, -turn + 5, math.MinInt, math.MinInt + 1, math.MinInt + 5}
}

func nobodies() []int {
	return []int{
		0, -1, -2, -api.MaxThreads, api.MaxThreads + 1, api.MaxThreads + 2, 16, 256, 257, 1<<16 + 1,
		turn, turn + 1, turn + api.MaxThreads, -turn + 1, math.MinInt, math.MinInt + 1, math.MaxInt,
	}
}

// rightSets are read sets of no reads, of some, and of MaxSet.
func rightSets() [][]api.Read {
	all := [][]api.Read{
		nil,
		{},
		{read(5, 2, 50), read(1, 3, 10)},
		{read(1, 3, 10), read(5, 2, 50)},
		{read(9, 0, 1), read(0, 0, 1), read(4, 0, 1)}, // cells alone are unlike
		{read(math.MaxInt, 1, 1), read(0, 1, 1), read(turn, 1, 1), read(math.MaxInt-1, 1, 1)},
		falling(api.MaxSet - 1),
		falling(api.MaxSet),
		with(falling(api.MaxSet), 0, read(math.MaxInt, last, least)),
		with(falling(api.MaxSet), api.MaxSet-1, read(math.MaxInt, 0, greatest)),
	}
	for _, r := range rightReads() {
		all = append(all, []api.Read{r})
	}
	return all
}

// wrongSets are too many reads, two of one cell, and one wrong read at each end.
func wrongSets() [][]api.Read {
	all := [][]api.Read{
		falling(api.MaxSet + 1),
		falling(api.MaxSet + 2),
		falling(2 * api.MaxSet),
		falling(256),
		falling(256 + 1),
		falling(1<<16 + 1),
		{read(5, 2, 50), read(5, 2, 50)},
		{read(5, 2, 50), read(5, 3, 50)},
		{read(5, 2, 50), read(5, 2, 51)},
		{read(0, 0, 0), read(0, 0, 0)},
		{read(5, 2, 50), read(1, 3, 10), read(5, 2, 50)},
		{read(math.MaxInt, 2, 50), read(1, 3, 10), read(math.MaxInt, 1, 50)},
		slices.Repeat([]api.Read{read(5, 2, 50)}, api.MaxSet+1),
	}
	for _, r := range wrongReads() {
		all = append(all,
			[]api.Read{r},
			[]api.Read{r, read(7, 2, 50), read(1, 3, 10)},
			[]api.Read{read(7, 2, 50), read(1, 3, 10), r},
		)
	}
	return all
}

// brief keeps the sets of many reads out of the tests' messages.
func brief(l []api.Read) []api.Read { return l[:min(len(l), 6)] }

// P5.1
func TestRightOfReadSets(t *testing.T) {
	for _, l := range rightSets() {
		if !Right(l) {
			t.Errorf("Right of %d reads %v: false", len(l), brief(l))
		}
	}
	for n := range 2 * api.MaxSet {
		if got := Right(falling(n)); got != (n <= 24) {
			t.Errorf("Right of %d reads: %v", n, got)
		}
	}
}

// P5.1
func TestRightOfNoReadSets(t *testing.T) {
	for _, l := range wrongSets() {
		if Right(l) {
			t.Errorf("Right of %d reads %v: true", len(l), brief(l))
		}
	}
}

// P5.1: a read is looked at wherever it stands.
func TestRightLooksAtEachRead(t *testing.T) {
	for place := range api.MaxSet {
		for _, r := range wrongReads() {
			if r.Cell >= 0 {
				r.Cell = 1000
			}
			if Right(with(falling(api.MaxSet), place, r)) {
				t.Errorf("Right of MaxSet reads with %v at %d: true", r, place)
			}
		}
	}
}

// P5.1: two of one cell, wherever they stand, alike and not.
func TestRightLooksAtEachPair(t *testing.T) {
	for first := range api.MaxSet {
		for second := range first {
			l := falling(api.MaxSet)
			r := l[first]
			for _, other := range []api.Read{r, read(r.Cell, r.Version+1, r.Value), read(r.Cell, r.Version, r.Value+1)} {
				if Right(with(l, second, other)) {
					t.Errorf("Right of %v at %d and %v at %d: true", other, second, r, first)
				}
			}
		}
	}
}

// P5.1
func TestAddOfNewCells(t *testing.T) {
	var l []api.Read
	for _, r := range []api.Read{read(5, 2, 50), read(1, 3, 10), read(9, 2, 50), read(0, 0, 0), read(math.MaxInt, last, least)} {
		want := append(slices.Clone(l), r)
		got, e := Add(l, r)
		if e != api.OK || !slices.Equal(got, want) {
			t.Fatalf("Add(%v, %v): %v, %d", l, r, got, e)
		}
		l = got
	}
}

// P5.1: each read that is right alone comes behind those that have no such cell.
func TestAddOfEachRightRead(t *testing.T) {
	for _, r := range rightReads() {
		for _, l := range [][]api.Read{nil, {}, {read(7, 7, 7)}, {read(77, 8, 9), read(7, last, least)}} {
			if got, e := Add(l, r); e != api.OK || !slices.Equal(got, append(slices.Clone(l), r)) {
				t.Errorf("Add(%v, %v): %v, %d", l, r, got, e)
			}
		}
	}
}

// P5.1: what a set has is there once still, in its place, though it has MaxSet.
func TestAddOfWhatIsThere(t *testing.T) {
	for _, l := range rightSets() {
		for _, r := range l {
			if got, e := Add(l, r); e != api.OK || !slices.Equal(got, l) {
				t.Errorf("Add of %v, that %v has: %v, %d", r, brief(l), brief(got), e)
			}
		}
	}
}

// P5.1: another version, another value, or both, above and below; the chapter's
// example among them. A set that has MaxSet tells ErrStale too.
func TestAddOfAnotherRead(t *testing.T) {
	for _, l := range [][]api.Read{
		{read(5, 2, 50)},
		{read(5, 2, 50), read(1, 3, 10)},
		falling(api.MaxSet - 1),
		falling(api.MaxSet),
	} {
		for _, had := range l {
			for _, r := range []api.Read{
				read(had.Cell, had.Version+1, had.Value), read(had.Cell, had.Version-1, had.Value),
				read(had.Cell, had.Version, had.Value+1), read(had.Cell, had.Version, had.Value-1),
				read(had.Cell, had.Version+1, had.Value-1), read(had.Cell, 0, had.Value), read(had.Cell, last, had.Value),
				read(had.Cell, had.Version, least), read(had.Cell, had.Version, greatest),
			} {
				if got, e := Add(l, r); e != api.ErrStale || !slices.Equal(got, l) {
					t.Errorf("Add of %v where %v is: %v, %d", r, had, brief(got), e)
				}
			}
		}
	}
}

// P5.1: at one below MaxSet there is room for one more, at MaxSet for none.
func TestAddTillBig(t *testing.T) {
	var l []api.Read
	for n := range 24 {
		r := read(7*n%24, n, -n)
		got, e := Add(l, r)
		if e != api.OK || !slices.Equal(got, append(slices.Clone(l), r)) {
			t.Fatalf("Add of %v to %d reads: %v, %d", r, n, brief(got), e)
		}
		l = got
	}
	for _, cell := range []int{24, 25, 63, 64, turn, math.MaxInt} {
		if got, e := Add(l, read(cell, 1, 1)); e != api.ErrBig || !slices.Equal(got, l) {
			t.Errorf("Add of the cell %d to 24 reads: %d reads, %d", cell, len(got), e)
		}
	}
}

// P5.1: ErrArg comes ahead of ErrStale and of ErrBig.
func TestAddOfNoRead(t *testing.T) {
	for _, l := range rightSets() {
		for _, r := range wrongReads() {
			if got, e := Add(l, r); e != api.ErrArg || !slices.Equal(got, l) {
				t.Errorf("Add of %v to %d reads %v: %v, %d", r, len(l), brief(l), brief(got), e)
			}
		}
	}
}

// P5.1: so does it of reads that are no set, though it has just this one.
func TestAddToNoReadSet(t *testing.T) {
	for _, l := range wrongSets() {
		for _, r := range append([]api.Read{l[0], l[len(l)-1], read(7, 2, 51), read(1000, 1, 1)}, wrongReads()[0]) {
			if got, e := Add(l, r); e != api.ErrArg || !slices.Equal(got, l) {
				t.Errorf("Add of %v to no set, %d reads %v: %v, %d", r, len(l), brief(l), brief(got), e)
			}
		}
	}
}

// P5.1: a set that comes of Add alone is one, whatever was refused on the way.
func TestWhatIsAddedIsAReadSet(t *testing.T) {
	var l []api.Read
	for i := range 3000 {
		r := read(i*i%31-1, i%3-1, i%2*turn)
		got, e := Add(l, r)
		if !Right(got) || (e != api.OK && !slices.Equal(got, l)) || (e == api.OK && !slices.Contains(got, r)) {
			t.Fatalf("Add(%v, %v): %v, %d", l, r, got, e)
		}
		l = got
	}
	if len(l) == 0 {
		t.Error("nothing was added")
	}
}

// P5.1
func TestFind(t *testing.T) {
	for _, l := range rightSets() {
		for _, r := range l {
			if got, found := Find(l, r.Cell); !found || got != r {
				t.Errorf("Find(%v, %d): %v, %v", brief(l), r.Cell, got, found)
			}
		}
	}
}

// P5.1: the cells beside those that are there are not.
func TestFindOfNoCell(t *testing.T) {
	for _, l := range [][]api.Read{
		nil,
		{},
		{read(5, 2, 50), read(1, 3, 10)},
		{read(5, 0, 0), read(9, 3, 6), read(1, 4, 8)},
		with(falling(api.MaxSet), 2, read(turn, 1, 1)),
	} {
		for _, cell := range append(wrongCells(), 0, 2, 3, 4, 6, 8, 10, 21, 24, 63, turn+5, turn+1, 1<<31, math.MaxInt) {
			if slices.ContainsFunc(l, func(r api.Read) bool { return r.Cell == cell }) {
				continue
			}
			if got, found := Find(l, cell); found || got != (api.Read{}) {
				t.Errorf("Find(%v, %d): %v, %v", brief(l), cell, got, found)
			}
		}
	}
}

// P5.1
func TestCells(t *testing.T) {
	for _, c := range []struct {
		l    []api.Read
		want []int
	}{
		{nil, nil},
		{[]api.Read{}, nil},
		{[]api.Read{read(0, 0, 0)}, []int{0}},
		{[]api.Read{read(5, 2, 50), read(1, 3, 10)}, []int{1, 5}},
		{[]api.Read{read(1, 3, 10), read(5, 2, 50)}, []int{1, 5}},
		{[]api.Read{read(9, 1, 3), read(0, 2, 2), read(63, 0, 9), read(10, 3, 1)}, []int{0, 9, 10, 63}},
		{[]api.Read{read(math.MaxInt, 0, 0), read(turn, 1, 0), read(3, 2, 0), read(1<<31, 3, 0)}, []int{3, 1 << 31, turn, math.MaxInt}},
	} {
		if got := Cells(c.l); !slices.Equal(got, c.want) {
			t.Errorf("Cells(%v): %v, want %v", c.l, got, c.want)
		}
	}
	for n := range api.MaxSet + 1 {
		var want []int
		for cell := range n {
			want = append(want, cell)
		}
		if got := Cells(falling(n)); !slices.Equal(got, want) {
			t.Errorf("Cells of %d reads: %v", n, got)
		}
	}
}

// P5.1: cells that were added in no order, each order of four of them.
func TestFindAndCellsOfEachOrder(t *testing.T) {
	all := []api.Read{read(8, 1, 4), read(0, 2, 3), read(31, 3, 2), read(7, 4, 1)}
	var grow func(l []api.Read)
	grow = func(l []api.Read) {
		if len(l) == len(all) {
			if got := Cells(l); !slices.Equal(got, []int{0, 7, 8, 31}) {
				t.Errorf("Cells(%v): %v", l, got)
			}
			for _, r := range all {
				if got, found := Find(l, r.Cell); !found || got != r {
					t.Errorf("Find(%v, %d): %v, %v", l, r.Cell, got, found)
				}
			}
			return
		}
		for _, r := range all {
			if next, e := Add(l, r); e != api.OK {
				t.Fatalf("Add(%v, %v): %d", l, r, e)
			} else if len(next) > len(l) {
				grow(next)
			}
		}
	}
	grow(nil)
}

// P5.1: of what is no read set they tell nothing, of a cell that it has neither.
func TestFindAndCellsOfNoReadSet(t *testing.T) {
	for _, l := range wrongSets() {
		for _, cell := range []int{l[0].Cell, l[len(l)-1].Cell, 0, 1, 5, 7, -1, math.MaxInt} {
			if got, found := Find(l, cell); found || got != (api.Read{}) {
				t.Errorf("Find of no set, %d reads %v, %d: %v, %v", len(l), brief(l), cell, got, found)
			}
		}
		if got := Cells(l); len(got) != 0 {
			t.Errorf("Cells of no set, %d reads %v: %d cells", len(l), brief(l), len(got))
		}
	}
}

// asRead is a table of n records that has the versions which the reads have.
func asRead(n int, l []api.Read) []api.Record {
	t := make([]api.Record, n)
	for _, r := range l {
		t[r.Cell%n].Version = r.Version
	}
	return t
}

func wrongTables() [][]api.Record {
	return [][]api.Record{
		nil,
		{},
		make([]api.Record, api.MaxRecords+1),
		make([]api.Record, 2*api.MaxRecords),
		{rec(-1, 0), rec(3, 0)},
		{rec(2, 0), rec(last+1, 0)},
		{rec(2, -1), rec(3, 0)},
		{rec(2, 0), rec(3, api.MaxThreads+1)},
		{rec(9, 0), rec(3, 0), rec(2, 0), rec(turn, 0)},
	}
}

// P5.2
func TestValid(t *testing.T) {
	l := []api.Read{read(5, 2, 50), read(1, 3, 10)}
	six := func(at1, at5 api.Record) []api.Record {
		return []api.Record{rec(last, 7), at1, rec(0, 1), rec(9, 8), rec(2, 6), at5}
	}
	for _, c := range []struct {
		name string
		l    []api.Read
		t    []api.Record
		who  int
		want api.Errno
	}{
		{"as read", l, six(rec(3, 0), rec(2, 0)), 4, api.OK},
		{"the first held by who", l, six(rec(3, 0), rec(2, 4)), 4, api.OK},
		{"the second held by who", l, six(rec(3, 4), rec(2, 0)), 4, api.OK},
		{"both held by who", l, six(rec(3, 4), rec(2, 4)), 4, api.OK},
		{"the first held by another", l, six(rec(3, 0), rec(2, 5)), 4, api.ErrStale},
		{"the second held by another", l, six(rec(3, 5), rec(2, 0)), 4, api.ErrStale},
		{"one held by each", l, six(rec(3, 4), rec(2, 5)), 4, api.ErrStale},
		{"the first of a version above", l, six(rec(3, 0), rec(7, 0)), 4, api.ErrStale},
		{"the first of one above", l, six(rec(3, 0), rec(3, 0)), 4, api.ErrStale},
		{"the first of one below", l, six(rec(3, 0), rec(1, 0)), 4, api.ErrStale},
		{"the second of one above", l, six(rec(4, 0), rec(2, 0)), 4, api.ErrStale},
		{"the second of one below", l, six(rec(2, 0), rec(2, 0)), 4, api.ErrStale},
		{"the second of 0", l, six(rec(0, 0), rec(2, 0)), 4, api.ErrStale},
		{"the second of the last one", l, six(rec(last, 0), rec(2, 0)), 4, api.ErrStale},
		{"versions exchanged", l, six(rec(2, 0), rec(3, 0)), 4, api.ErrStale},
		{"another version, held by who", l, six(rec(3, 4), rec(3, 4)), 4, api.ErrStale},
		{"another version, held by another", l, six(rec(3, 5), rec(3, 5)), 4, api.ErrStale},
		{"two cells of one record, of unlike versions", l, []api.Record{rec(3, 0), rec(3, 0)}, 4, api.ErrStale},
		{"one record, of unlike versions", l, []api.Record{rec(2, 0)}, 4, api.ErrStale},
		{"two cells of one record", []api.Read{read(5, 3, 50), read(1, 3, 10)}, []api.Record{rec(9, 8), rec(3, 0)}, 4, api.OK},
		{"two of one record, held by who", []api.Read{read(5, 3, 50), read(1, 3, 10)}, []api.Record{rec(9, 8), rec(3, 4)}, 4, api.OK},
		{"two of one record, held by another", []api.Read{read(5, 3, 50), read(1, 3, 10)}, []api.Record{rec(9, 8), rec(3, 3)}, 4, api.ErrStale},
		{"two of one record, of another version", []api.Read{read(5, 3, 50), read(1, 3, 10)}, []api.Record{rec(3, 0), rec(4, 0)}, 4, api.ErrStale},
		{"a great cell", []api.Read{read(math.MaxInt, 3, 1)}, []api.Record{rec(9, 8), rec(3, 0)}, 4, api.OK},
		{"a great cell of another version", []api.Read{read(math.MaxInt, 9, 1)}, []api.Record{rec(9, 0), rec(3, 0)}, 4, api.ErrStale},
		{"versions at both ends", []api.Read{read(0, 0, 1), read(1, last, 1)}, []api.Record{rec(0, 0), rec(last, 0)}, 4, api.OK},
		{"no reads", nil, []api.Record{rec(9, 8)}, 4, api.OK},
		{"an empty list", []api.Read{}, six(rec(9, 1), rec(9, 2)), 4, api.OK},
	} {
		if got := Valid(c.l, c.t, c.who); got != c.want {
			t.Errorf("Valid, %s: %d, want %d", c.name, got, c.want)
		}
	}
}

// P5.2: every owner of a record, and everyone who asks.
func TestValidOfWhatEachHolds(t *testing.T) {
	l := []api.Read{read(6, 8, 1)}
	for who := 1; who <= 8; who++ {
		for owner := 0; owner <= 8; owner++ {
			for version := 6; version <= 10; version++ {
				want := api.ErrStale
				if version == 8 && (owner == 0 || owner == who) {
					want = api.OK
				}
				x := []api.Record{rec(8, 0), rec(version, owner), rec(8, 0), rec(8, 0), rec(8, 0)}
				if got := Valid(l, x, who); got != want {
					t.Errorf("Valid by %d of the version %d, that %d holds: %d", who, version, owner, got)
				}
			}
		}
	}
}

// P5.2: each read is looked at, wherever it stands, in a table of each length;
// and no record that was not read.
func TestValidLooksAtEachRead(t *testing.T) {
	for n := 1; n <= api.MaxRecords; n++ {
		var l []api.Read
		for place := range n {
			l = append(l, read(place*(n-1)%n+n*place, 40+place*(n-1)%n, 0))
		}
		x := asRead(n, l)
		for who := 1; who <= api.MaxThreads; who++ {
			if got := Valid(l, x, who); got != api.OK {
				t.Errorf("Valid of %v, by %d: %d", brief(l), who, got)
			}
		}
		for place, r := range l {
			rest := slices.Delete(slices.Clone(l), place, place+1)
			for _, other := range []api.Record{rec(r.Version+1, 0), rec(r.Version-1, 0), rec(r.Version, 2), rec(r.Version+1, 1)} {
				y := slices.Clone(x)
				y[r.Cell%n] = other
				if got := Valid(l, y, 1); got != api.ErrStale {
					t.Errorf("Valid of %d reads, where that at %d is %v: %d", n, place, other, got)
				}
				if got := Valid(rest, y, 1); got != api.OK {
					t.Errorf("Valid of %d reads without that at %d, %v: %d", n, place, other, got)
				}
			}
		}
	}
}

// P5.2: MaxSet reads have more cells than there are records.
func TestValidOfManyReads(t *testing.T) {
	var l []api.Read
	for cell := api.MaxSet - 1; cell >= 0; cell-- {
		l = append(l, read(cell, cell%api.MaxRecords, cell))
	}
	x := asRead(api.MaxRecords, l)
	if got := Valid(l, x, 1); got != api.OK {
		t.Errorf("Valid of MaxSet reads: %d", got)
	}
	for place := range l {
		other := with(l, place, read(l[place].Cell, l[place].Version+1, l[place].Value))
		if got := Valid(other, x, 1); got != api.ErrStale {
			t.Errorf("Valid of MaxSet reads with %v at %d: %d", other[place], place, got)
		}
	}
}

// P5.2: ErrArg comes ahead of ErrStale.
func TestValidOfWrongArguments(t *testing.T) {
	fresh, stale := []api.Record{rec(1, 0)}, []api.Record{rec(77, 5), rec(78, 5), rec(79, 0)}
	l := []api.Read{read(5, 1, 50)}
	for _, who := range nobodies() {
		for _, reads := range [][]api.Read{nil, {}, l} {
			for _, x := range [][]api.Record{fresh, stale, {rec(1, 1)}} {
				if got := Valid(reads, x, who); got != api.ErrArg {
					t.Errorf("Valid(%v, %v) by %d: %d", reads, x, who, got)
				}
			}
		}
	}
	for _, who := range []int{1, api.MaxThreads} {
		for _, reads := range wrongSets() {
			for _, x := range [][]api.Record{fresh, stale, {rec(2, 0), rec(2, 0)}, make([]api.Record, api.MaxRecords)} {
				if got := Valid(reads, x, who); got != api.ErrArg {
					t.Errorf("Valid of no set, %d reads %v: %d", len(reads), brief(reads), got)
				}
			}
		}
		for _, x := range wrongTables() {
			for _, reads := range [][]api.Read{nil, {}, l, {read(0, 2, 1), read(1, 3, 1)}, {read(3, 9, 9)}} {
				if got := Valid(reads, x, who); got != api.ErrArg {
					t.Errorf("Valid(%v, %v), that is no table: %d", reads, x, got)
				}
			}
		}
		for _, reads := range [][]api.Read{nil, {}, l} {
			if got := Valid(reads, fresh, who); got != api.OK {
				t.Errorf("Valid(%v, %v) by %d: %d", reads, fresh, who, got)
			}
		}
	}
}

func wrongHeaps() [][]api.Cell {
	return [][]api.Cell{
		nil,
		{},
		make([]api.Cell, api.MaxCells+1),
		slices.Repeat([]api.Cell{live(1)}, api.MaxCells+1),
		{live(1), live(2), live(greatest + 1)},
		{live(least - 1), live(2), live(3)},
		{live(1), {Live: false, Value: 5}},
		{live(turn), live(2)},
	}
}

// P5.2
func TestSame(t *testing.T) {
	h := []api.Cell{live(7), live(10), {}, live(0), live(least), live(50), live(greatest)}
	for _, c := range []struct {
		name string
		l    []api.Read
		want bool
	}{
		{"no reads", nil, true},
		{"an empty list", []api.Read{}, true},
		{"one", []api.Read{read(5, 2, 50)}, true},
		{"two", []api.Read{read(5, 2, 50), read(1, 3, 10)}, true},
		{"whatever the versions are", []api.Read{read(5, last, 50), read(1, 0, 10)}, true},
		{"the first and the last cell", []api.Read{read(6, 0, greatest), read(0, 0, 7)}, true},
		{"values at the ends", []api.Read{read(4, 0, least), read(6, 0, greatest)}, true},
		{"0 of one that is live", []api.Read{read(3, 0, 0)}, true},
		{"0 of one that is not", []api.Read{read(2, 0, 0)}, false},
		{"1 of one that is not", []api.Read{read(2, 0, 1)}, false},
		{"one that is not, behind one that is", []api.Read{read(5, 2, 50), read(2, 0, 0)}, false},
		{"one that is not, ahead of one that is", []api.Read{read(2, 0, 0), read(5, 2, 50)}, false},
		{"one value above", []api.Read{read(5, 2, 49)}, false},
		{"one value below", []api.Read{read(5, 2, 51)}, false},
		{"another sign", []api.Read{read(0, 2, -7)}, false},
		{"another value, first", []api.Read{read(1, 3, 11), read(5, 2, 50)}, false},
		{"another value, last", []api.Read{read(5, 2, 50), read(1, 3, 11)}, false},
		{"values exchanged", []api.Read{read(5, 2, 10), read(1, 3, 50)}, false},
		{"just behind the end", []api.Read{read(7, 0, 7)}, false},
		{"0 just behind the end", []api.Read{read(7, 0, 0)}, false},
		{"behind the end, last", []api.Read{read(5, 2, 50), read(8, 0, 0)}, false},
		{"far behind the end", []api.Read{read(turn, 0, 7)}, false},
		{"the greatest cell", []api.Read{read(math.MaxInt, 0, greatest)}, false},
	} {
		if got := Same(c.l, h); got != c.want {
			t.Errorf("Same, %s: %v", c.name, got)
		}
	}
}

// P5.2: each read is looked at, wherever it stands; and no cell that was not read.
func TestSameLooksAtEachRead(t *testing.T) {
	h := make([]api.Cell, api.MaxCells)
	var l []api.Read
	for n := range api.MaxSet {
		cell := 63 - n*5%64
		h[cell] = live(100 + cell)
		l = append(l, read(cell, n, 100+cell))
	}
	if !Same(l, h) {
		t.Fatal("Same of MaxSet reads: false")
	}
	for place, r := range l {
		rest := slices.Delete(slices.Clone(l), place, place+1)
		for _, other := range []api.Cell{{}, live(0), live(r.Value + 1), live(r.Value - 1), live(-r.Value)} {
			g := slices.Clone(h)
			g[r.Cell] = other
			if Same(l, g) {
				t.Errorf("Same, where the cell of that at %d is %v: true", place, other)
			}
			if !Same(rest, g) {
				t.Errorf("Same without that at %d, whose cell is %v: false", place, other)
			}
		}
	}
}

// P5.2: false of what is no heap, or no read set, that has just these values.
func TestSameOfWrongArguments(t *testing.T) {
	for _, h := range wrongHeaps() {
		for _, l := range [][]api.Read{nil, {}, {read(0, 1, 1)}, {read(1, 1, 2)}} {
			if Same(l, h) {
				t.Errorf("Same(%v), of no heap, %d cells: true", l, len(h))
			}
		}
	}
	for _, l := range wrongSets() {
		h := make([]api.Cell, api.MaxCells)
		for _, r := range l {
			if 0 <= r.Cell && r.Cell < len(h) && least <= r.Value && r.Value <= greatest {
				h[r.Cell] = live(r.Value)
			}
		}
		if Same(l, h) {
			t.Errorf("Same of no set, %d reads %v: true", len(l), brief(l))
		}
	}
}

// change is one call that makes another table of one, and who does it.
type change struct {
	name string
	who  int
	do   func(t []api.Record) ([]api.Record, api.Errno)
}

func changes(cells int) []change {
	var all []change
	for who := 1; who <= 2; who++ {
		for cell := range cells {
			all = append(all, change{"Lock", who, func(t []api.Record) ([]api.Record, api.Errno) { return stripe.Lock(t, who, cell) }})
		}
		all = append(all, change{"Let", who, func(t []api.Record) ([]api.Record, api.Errno) { return stripe.Let(t, who), api.OK }})
		for _, version := range []int{1, 2} {
			all = append(all, change{"Stamp", who, func(t []api.Record) ([]api.Record, api.Errno) { return stripe.Stamp(t, who, version) }})
		}
	}
	return all
}

// touched tells whether, from one table to the next, somebody else than who has
// locked a record of what was read, or anybody has stamped one.
func touched(l []api.Read, was, is []api.Record, who int) bool {
	for _, r := range l {
		place := r.Cell % len(was)
		locked := is[place].Owner != was[place].Owner && is[place].Owner != 0 && is[place].Owner != who
		if locked || is[place].Version != was[place].Version {
			return true
		}
	}
	return false
}

// walk goes through every run of so many calls, and holds what Valid tells
// behind each of them against what it told ahead.
func walk(t *testing.T, l []api.Read, x []api.Record, who, steps int) {
	was := Valid(l, x, who)
	for _, c := range changes(2 * len(x)) {
		y, e := c.do(x)
		if e != api.OK && !slices.Equal(x, y) {
			t.Fatalf("%s by %d of %v: %v, %d", c.name, c.who, x, y, e)
		}
		is := Valid(l, y, who)
		if was == api.OK && (is == api.OK) == touched(l, x, y, who) {
			t.Fatalf("of %v, valid for %d, %s by %d makes %v of %v: %d", l, who, c.name, c.who, y, x, is)
		}
		if steps > 1 && e == api.OK {
			walk(t, l, y, who, steps-1)
		}
	}
}

// P5.3: whatever is done, what is valid stays so just as long as no record of it
// is locked by another one, or stamped.
func TestWhatIsValidStaysSo(t *testing.T) {
	for size := 1; size <= 3; size++ {
		for _, l := range [][]api.Read{
			nil,
			{read(0, 0, 1)},
			{read(size-1, 0, 1)},
			{read(0, 0, 1), read(size, 0, 2)},
			{read(4, 0, 1), read(0, 0, 1)},
		} {
			for who := 1; who <= 3; who++ {
				x, _ := stripe.New(size)
				if got := Valid(l, x, who); got != api.OK {
					t.Fatalf("Valid(%v, %v) by %d: %d", l, x, who, got)
				}
				walk(t, l, x, who, 4)
			}
		}
	}
}

// P5.3: what becomes stale by a lock is valid again when that is let, by a stamp
// it never is.
func TestLetAndStampOfWhatWasRead(t *testing.T) {
	l := []api.Read{read(3, 0, 1), read(0, 0, 2)}
	x, _ := stripe.New(2)
	locked, _ := stripe.Lock(x, 2, 1)
	if got := Valid(l, locked, 1); got != api.ErrStale {
		t.Errorf("locked by another: %d", got)
	}
	if got := Valid(l, locked, 2); got != api.OK {
		t.Errorf("locked by who: %d", got)
	}
	if got := Valid(l, stripe.Let(locked, 2), 1); got != api.OK {
		t.Errorf("let again: %d", got)
	}
	stamped, _ := stripe.Stamp(locked, 2, 1)
	for who := 1; who <= api.MaxThreads; who++ {
		if got := Valid(l, stamped, who); got != api.ErrStale {
			t.Errorf("stamped, for %d: %d", who, got)
		}
	}
}

// R1: the reads stay as they were, those behind the end of the list too, and the
// answer is memory of its own, so that neither side is written through it.
func TestReadsStayAsTheyWere(t *testing.T) {
	spare := []api.Read{read(71, 1, 1), read(72, 2, 2), read(73, 0, 3)}
	for _, was := range append(rightSets(), wrongSets()...) {
		for _, r := range append(slices.Clone(brief(was)), read(1000, 1, 1), read(5, 77, 77), read(-1, 0, 0), read(5, 2, turn)) {
			room := append(slices.Clone(was), spare...)
			given := room[:len(was)]
			answer, _ := Add(given, r)
			told := slices.Clone(answer)
			behind := append(answer, read(1, 1, 1))
			for i := range behind {
				behind[i] = read(-1234, -1234, -1234)
			}
			for i := range answer {
				answer[i] = read(-1234, -1234, -1234)
			}
			if !slices.Equal(given, was) || !slices.Equal(room[len(was):], spare) {
				t.Fatalf("Add changed %v into %v", brief(was), brief(given))
			}
			answer, _ = Add(given, r)
			for i := range room {
				room[i] = read(-4321, -4321, -4321)
			}
			if !slices.Equal(answer, told) {
				t.Fatalf("Add to %v kept what it was handed", brief(was))
			}
		}
	}
}

// R1: so do they with those that answer no reads, and so do records and cells.
func TestLookingChangesNothing(t *testing.T) {
	tables := append(wrongTables(), []api.Record{rec(3, 1), rec(0, 0), rec(2, 2)}, make([]api.Record, api.MaxRecords))
	heaps := append(wrongHeaps(), []api.Cell{live(9), {}, live(-3)}, make([]api.Cell, api.MaxCells))
	for _, was := range append(rightSets(), wrongSets()...) {
		given := slices.Clone(was)
		Right(given)
		Find(given, 5)
		first := Cells(given)
		told := slices.Clone(first)
		for i := range first {
			first[i] = -1
		}
		if again := Cells(given); !slices.Equal(again, told) {
			t.Fatalf("Cells of %v told %v the second time", brief(was), again)
		}
		for _, x := range tables {
			kept := slices.Clone(x)
			for who := range api.MaxThreads + 2 {
				Valid(given, x, who)
			}
			if !slices.Equal(x, kept) {
				t.Fatalf("Valid of %v changed %v into %v", brief(was), kept, x)
			}
		}
		for _, h := range heaps {
			kept := slices.Clone(h)
			Same(given, h)
			if !slices.Equal(h, kept) {
				t.Fatalf("Same of %v changed a heap of %d cells", brief(was), len(h))
			}
		}
		if !slices.Equal(given, was) {
			t.Fatalf("%v became %v", brief(was), brief(given))
		}
	}
}
