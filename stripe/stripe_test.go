package stripe

import (
	"maps"
	"math"
	"slices"
	"testing"

	"handshaker/api"
)

const (
	last = api.MaxClock
	turn = 1 << 32
)

func rec(version, owner int) api.Record { return api.Record{Version: version, Owner: owner} }

// filled is n records, of unlike versions, held in turn by nobody and by each.
func filled(n int) []api.Record {
	t := make([]api.Record, n)
	for i := range t {
		t[i] = rec(100+i, i%(api.MaxThreads+1))
	}
	return t
}

// allHeld is n records, of unlike versions, that one holds.
func allHeld(n, who int) []api.Record {
	t := make([]api.Record, n)
	for i := range t {
		t[i] = rec(100+i, who)
	}
	return t
}

func with(t []api.Record, place int, r api.Record) []api.Record {
	t = slices.Clone(t)
	t[place] = r
	return t
}

// rightTables are tables of 1 record, of some, and of MaxRecords.
func rightTables() [][]api.Record {
	return [][]api.Record{
		{rec(0, 0)},
		{rec(last, 0)},
		{rec(0, api.MaxThreads)},
		{rec(last, api.MaxThreads)},
		{rec(5, 1)},
		{rec(5, 1), rec(3, 2)},
		{rec(3, 2), rec(last, 2), rec(0, 0)},
		{rec(1, 0), rec(0, 7), rec(last-1, 1), rec(4, 7), rec(4, 0)},
		make([]api.Record, api.MaxRecords),
		filled(api.MaxRecords - 1),
		filled(api.MaxRecords),
		allHeld(api.MaxRecords, 1),
		allHeld(api.MaxRecords, api.MaxThreads),
		with(make([]api.Record, api.MaxRecords), 0, rec(9, 3)),
		with(make([]api.Record, api.MaxRecords), api.MaxRecords-1, rec(9, 3)),
	}
}

// wrongRecords are those with a Version or an Owner that there is not, such as
// come back to a right one if they are cut to fewer bits among them.
func wrongRecords() []api.Record {
	var all []api.Record
	for _, v := range wrongVersions() {
		all = append(all, rec(v, 0), rec(v, 1), rec(v, -1))
	}
	for _, who := range nobodies() {
		if who != 0 {
			all = append(all, rec(0, who), rec(last, who))
		}
	}
	return all
}

// wrongTables are too few records and too many, and one wrong record at each end.
func wrongTables() [][]api.Record {
	all := [][]api.Record{
		nil,
		{},
		make([]api.Record, api.MaxRecords+1),
		filled(api.MaxRecords + 1),
		filled(2 * api.MaxRecords),
		allHeld(api.MaxRecords+1, 1),
		allHeld(256+1, 1),
		filled(1 << 16),
	}
	for _, r := range wrongRecords() {
		all = append(all,
			[]api.Record{r},
			[]api.Record{r, rec(1, 1), rec(2, 0)},
			[]api.Record{rec(1, 1), rec(2, 0), r},
			with(allHeld(api.MaxRecords, 1), api.MaxRecords-1, r),
			with(make([]api.Record, api.MaxRecords), 0, r),
		)
	}
	return all
}

func wrongVersions() []int {
	return []int{-1, -2, -last, -last - 1, last + 1, last + 2, turn, turn + 1, turn + last, -turn, -turn + 1, math.MinInt, math.MinInt + 1, math.MaxInt}
}

func nobodies() []int {
	return []int{
		0, -1, -2, -api.MaxThreads, api.MaxThreads + 1, api.MaxThreads + 2, 16, 255, 256, 257, 1<<16 + 1,
		turn, turn + 1, turn + api.MaxThreads, -turn + 1, math.MinInt, math.MinInt + 1, math.MaxInt,
	}
}

func wrongCells() []int {
	return []int{-1, -2, -3, -api.MaxRecords, -turn, -turn + 1, math.MinInt, math.MinInt + 1}
}

// greatCells are past all cells of a heap: each has a record still.
func greatCells() []int {
	return []int{api.MaxCells - 1, api.MaxCells, api.MaxCells + 1, 255, 256, 1 << 31, turn - 1, turn, turn + 3, math.MaxInt - 1, math.MaxInt}
}

// placesWhere are those of the records of which is tells true.
func placesWhere(t []api.Record, is func(place int) bool) []int {
	var places []int
	for place := range t {
		if is(place) {
			places = append(places, place)
		}
	}
	return places
}

func heldBy(t []api.Record, who int) []int {
	return placesWhere(t, func(place int) bool { return t[place].Owner == who })
}

// brief keeps the tables of many records out of the tests' messages.
func brief(t []api.Record) []api.Record { return t[:min(len(t), 6)] }

// P3.1
func TestNewOfEachLength(t *testing.T) {
	for n := 1; n <= api.MaxRecords; n++ {
		x, e := New(n)
		if e != api.OK || !slices.Equal(x, make([]api.Record, n)) {
			t.Errorf("New(%d): %v, %d", n, x, e)
		}
		if !Right(x) {
			t.Errorf("New(%d) is no table", n)
		}
		for who := 1; who <= api.MaxThreads; who++ {
			if held := Held(x, who); len(held) != 0 {
				t.Errorf("New(%d): %d holds %v", n, who, held)
			}
		}
	}
}

// P3.1
func TestNewOfWrongLengths(t *testing.T) {
	for _, n := range []int{
		0, -1, -2, -api.MaxRecords, api.MaxRecords + 1, api.MaxRecords + 2, 64, 257, 1<<16 + 1,
		turn, turn + 1, -turn + 1, math.MinInt, math.MinInt + 1, math.MaxInt,
	} {
		if x, e := New(n); e != api.ErrArg || len(x) != 0 {
			t.Errorf("New(%d): %v, %d, want none and ErrArg", n, brief(x), e)
		}
	}
}

// R4: what is answered hangs on nothing but what is given.
func TestNewIsNewEachTime(t *testing.T) {
	a, _ := New(2)
	a[0] = rec(5, 5)
	if b, e := New(2); e != api.OK || !slices.Equal(b, []api.Record{{}, {}}) {
		t.Errorf("New(2) once more: %v, %d", b, e)
	}
}

// P3.1
func TestRightOfTables(t *testing.T) {
	for _, x := range rightTables() {
		if !Right(x) {
			t.Errorf("Right of %d records %v: false", len(x), brief(x))
		}
	}
	for n := 1; n <= api.MaxRecords; n++ {
		for who := 0; who <= api.MaxThreads; who++ {
			for _, version := range []int{0, 1, last - 1, last} {
				if x := slices.Repeat([]api.Record{rec(version, who)}, n); !Right(x) {
					t.Errorf("Right of %d records %v: false", n, x[0])
				}
			}
		}
	}
}

// P3.1
func TestRightOfNoTables(t *testing.T) {
	for _, x := range wrongTables() {
		if Right(x) {
			t.Errorf("Right of %d records %v: true", len(x), brief(x))
		}
	}
}

// P3.1: a record is looked at wherever it stands.
func TestRightLooksAtEachRecord(t *testing.T) {
	for place := range api.MaxRecords {
		for _, r := range wrongRecords() {
			if Right(with(filled(api.MaxRecords), place, r)) {
				t.Errorf("Right of MaxRecords records with %v at %d: true", r, place)
			}
		}
	}
}

// P3.1
func TestOf(t *testing.T) {
	for _, c := range []struct {
		n     int
		cells []int
		want  []int
	}{
		{2, []int{1, 3, 4}, []int{0, 1}}, // the chapter's example
		{2, nil, nil},
		{2, []int{}, nil},
		{1, []int{0}, []int{0}},
		{1, []int{5, 0, math.MaxInt}, []int{0}},
		{2, []int{1}, []int{1}},
		{2, []int{3, 3, 3}, []int{1}},
		{2, []int{5, 3, 1}, []int{1}},
		{2, []int{1, 0}, []int{0, 1}},
		{3, []int{5, 4, 3}, []int{0, 1, 2}},
		{3, []int{math.MaxInt}, []int{1}},
		{4, []int{7, 2, 11, 4, 3}, []int{0, 2, 3}},
		{10, []int{9, 19, 10, 8, 28}, []int{0, 8, 9}},
		{16, []int{15, 16}, []int{0, 15}},
		{16, []int{31, 63, 47}, []int{15}},
		{16, []int{math.MaxInt, turn}, []int{0, 15}},
	} {
		if got := Of(make([]api.Record, c.n), c.cells...); !slices.Equal(got, c.want) {
			t.Errorf("Of %d records, of the cells %v: %v, want %v", c.n, c.cells, got, c.want)
		}
	}
}

// P3.1: each cell has one record, whatever the records are.
func TestOfEachCell(t *testing.T) {
	for _, x := range rightTables() {
		for cell := range 2 * api.MaxCells {
			if got := Of(x, cell); !slices.Equal(got, []int{cell % len(x)}) {
				t.Errorf("Of %d records, of the cell %d: %v", len(x), cell, got)
			}
		}
		for _, cell := range greatCells() {
			if got := Of(x, cell); !slices.Equal(got, []int{cell % len(x)}) {
				t.Errorf("Of %d records, of the cell %d: %v", len(x), cell, got)
			}
		}
	}
}

// P3.1: every list of three cells of every small table, and all cells at once.
func TestOfSeveralCells(t *testing.T) {
	for n := 1; n <= 5; n++ {
		x := filled(n)
		for code := range 12 * 12 * 12 {
			cells := []int{code % 12, code / 12 % 12, code / 144}
			want := placesWhere(x, func(place int) bool {
				return cells[0]%n == place || cells[1]%n == place || cells[2]%n == place
			})
			if got := Of(x, cells...); !slices.Equal(got, want) {
				t.Fatalf("Of %d records, of the cells %v: %v, want %v", n, cells, got, want)
			}
		}
	}
	for n := 1; n <= api.MaxRecords; n++ {
		var falling, want []int
		for i := range 1000 {
			falling = append(falling, 999-i)
		}
		for place := range n {
			want = append(want, place)
		}
		if got := Of(filled(n), falling...); !slices.Equal(got, want) {
			t.Errorf("Of %d records, of 1000 cells: %v", n, got)
		}
	}
}

// P3.1: one cell below 0, wherever it stands.
func TestOfNoCells(t *testing.T) {
	for _, x := range rightTables() {
		for _, cell := range wrongCells() {
			for _, cells := range [][]int{{cell}, {cell, 1, 2}, {1, cell, 2}, {1, 2, cell}, {0, cell, cell}} {
				if got := Of(x, cells...); len(got) != 0 {
					t.Errorf("Of %d records, of the cells %v: %v", len(x), cells, got)
				}
			}
		}
	}
}

// P3.1, P3.2: no table has neither places nor records that somebody holds.
func TestPlacesOfNoTable(t *testing.T) {
	for _, x := range wrongTables() {
		for _, cells := range [][]int{nil, {0}, {0, 1, 2}, {-1}} {
			if got := Of(x, cells...); len(got) != 0 {
				t.Errorf("Of no table, %d records %v, of %v: %v", len(x), brief(x), cells, got)
			}
		}
		for who := -1; who <= api.MaxThreads+1; who++ {
			if got := Held(x, who); len(got) != 0 {
				t.Errorf("Held of no table, %d records %v, by %d: %d places", len(x), brief(x), who, len(got))
			}
		}
	}
}

// P3.2
func TestHeld(t *testing.T) {
	x := []api.Record{rec(5, 2), rec(0, 0), rec(7, 8), rec(5, 2), rec(last, 1), rec(0, 2)}
	for who, want := range map[int][]int{1: {4}, 2: {0, 3, 5}, 3: nil, 7: nil, 8: {2}} {
		if got := Held(x, who); !slices.Equal(got, want) {
			t.Errorf("Held by %d: %v, want %v", who, got, want)
		}
	}
	for _, x := range rightTables() {
		for who := 1; who <= api.MaxThreads; who++ {
			if got, want := Held(x, who), heldBy(x, who); !slices.Equal(got, want) {
				t.Errorf("Held of %v by %d: %v, want %v", brief(x), who, got, want)
			}
		}
	}
}

// P3.2: nobody holds nothing, though records have the Owner 0.
func TestHeldByNobody(t *testing.T) {
	for _, x := range rightTables() {
		for _, who := range nobodies() {
			if got := Held(x, who); len(got) != 0 {
				t.Errorf("Held of %v by %d: %v", brief(x), who, got)
			}
		}
	}
}

// P3.2
func TestLock(t *testing.T) {
	x := []api.Record{rec(5, 0), rec(6, 0), rec(7, 2), rec(8, 3)}
	for _, c := range []struct {
		name  string
		who   int
		cells []int
		want  []api.Record
		fault api.Errno
	}{
		{"no cells", 1, nil, x, api.OK},
		{"an empty list", 1, []int{}, x, api.OK},
		{"one that is free", 1, []int{0}, with(x, 0, rec(5, 1)), api.OK},
		{"one of a greater number", 1, []int{9}, with(x, 1, rec(6, 1)), api.OK},
		{"the greatest number", 3, []int{math.MaxInt}, x, api.OK},
		{"two that are free", 8, []int{1, 0}, []api.Record{rec(5, 8), rec(6, 8), rec(7, 2), rec(8, 3)}, api.OK},
		{"one cell twice", 1, []int{1, 1}, with(x, 1, rec(6, 1)), api.OK},
		{"two cells of one record", 1, []int{4, 8}, with(x, 0, rec(5, 1)), api.OK},
		{"what they hold", 2, []int{2}, x, api.OK},
		{"what they hold, and more", 2, []int{6, 0}, with(x, 0, rec(5, 2)), api.OK},
		{"what another one holds", 1, []int{3}, x, api.ErrLock},
		{"what another one holds, by another number", 1, []int{2 + 4*9}, x, api.ErrLock},
		{"what another one holds, last", 1, []int{0, 1, 2}, x, api.ErrLock},
		{"what another one holds, first", 1, []int{3, 1, 0}, x, api.ErrLock},
		{"theirs, and what another one holds", 2, []int{2, 0, 3}, x, api.ErrLock},
		{"what two others hold", 1, []int{2, 3}, x, api.ErrLock},
	} {
		if got, e := Lock(x, c.who, c.cells...); e != c.fault || !slices.Equal(got, c.want) {
			t.Errorf("Lock of %s: %v, %d, want %v, %d", c.name, got, e, c.want, c.fault)
		}
	}
}

// P3.2: every one, of one record, whoever holds it.
func TestLockOfWhatEachHolds(t *testing.T) {
	for who := 1; who <= api.MaxThreads; who++ {
		for owner := 0; owner <= api.MaxThreads; owner++ {
			x := []api.Record{rec(9, owner)}
			want, fault := rec(9, who), api.OK
			if owner != 0 && owner != who {
				want, fault = x[0], api.ErrLock
			}
			if got, e := Lock(x, who, 0); e != fault || len(got) != 1 || got[0] != want {
				t.Errorf("Lock by %d of what %d holds: %v, %d", who, owner, got, e)
			}
		}
	}
}

// P3.2: of MaxRecords records, each alone and all of them.
func TestLockOfManyRecords(t *testing.T) {
	x := make([]api.Record, api.MaxRecords)
	var all []int
	for place := range x {
		all = append(all, 5*api.MaxRecords-1-place)
		got, e := Lock(x, api.MaxThreads, place+api.MaxRecords)
		if e != api.OK || !slices.Equal(got, with(x, place, rec(0, api.MaxThreads))) {
			t.Errorf("Lock of the cell %d: %v, %d", place+api.MaxRecords, got, e)
		}
	}
	got, e := Lock(x, api.MaxThreads, all...)
	if want := slices.Repeat([]api.Record{rec(0, api.MaxThreads)}, api.MaxRecords); e != api.OK || !slices.Equal(got, want) {
		t.Errorf("Lock of all: %v, %d", got, e)
	}
}

// P3.2, P3.3: one record that somebody else holds, wherever it stands, and who
// holds no more than ahead.
func TestLockIsAllOrNothing(t *testing.T) {
	var all []int
	for place := range api.MaxRecords {
		all = append(all, place)
	}
	for place := range api.MaxRecords {
		x := with(make([]api.Record, api.MaxRecords), place, rec(3, 4))
		x[(place+1)%api.MaxRecords] = rec(2, 5)
		for _, cells := range [][]int{all, slices.Insert(all[:place:place], 0, place), {place}, {place + 1, place}} {
			if got, e := Lock(x, 5, cells...); e != api.ErrLock || !slices.Equal(got, x) {
				t.Errorf("Lock of %v, where another one holds %d: %v, %d", cells, place, got, e)
			}
		}
		rest := slices.Delete(slices.Clone(all), place, place+1)
		got, e := Lock(x, 5, rest...)
		if e != api.OK || !slices.Equal(Held(got, 5), rest) || got[place] != rec(3, 4) {
			t.Errorf("Lock of all but %d: %v, %d", place, got, e)
		}
	}
}

// P3.2: ErrArg comes ahead of ErrLock.
func TestLockOfWrongArguments(t *testing.T) {
	for _, x := range rightTables() {
		for _, who := range nobodies() {
			for _, cells := range [][]int{nil, {0}, {1, 2, 3}, {-1}} {
				if got, e := Lock(x, who, cells...); e != api.ErrArg || !slices.Equal(got, x) {
					t.Errorf("Lock of %v by %d, %v: %v, %d", brief(x), who, cells, brief(got), e)
				}
			}
		}
		for _, cell := range wrongCells() {
			for _, cells := range [][]int{{cell}, {cell, 0}, {0, cell}, {0, cell, 1}, {0, 1, 2, 3, 4, cell}} {
				for who := 1; who <= api.MaxThreads; who++ {
					if got, e := Lock(x, who, cells...); e != api.ErrArg || !slices.Equal(got, x) {
						t.Errorf("Lock of %v by %d, %v: %v, %d", brief(x), who, cells, brief(got), e)
					}
				}
			}
		}
	}
}

// P3.2: no table is ErrArg, whatever else is right or wrong; Let answers it.
func TestNoTable(t *testing.T) {
	for _, x := range wrongTables() {
		for _, who := range []int{-1, 0, 1, 5, api.MaxThreads, api.MaxThreads + 1} {
			for _, cells := range [][]int{nil, {0}, {0, 1}, {-1}, {math.MaxInt}} {
				if got, e := Lock(x, who, cells...); e != api.ErrArg || !slices.Equal(got, x) {
					t.Errorf("Lock of %d records %v: %v, %d", len(x), brief(x), brief(got), e)
				}
			}
			for _, version := range []int{-1, 0, 1, 1000000, last, last + 1} {
				if got, e := Stamp(x, who, version); e != api.ErrArg || !slices.Equal(got, x) {
					t.Errorf("Stamp of %d records %v: %v, %d", len(x), brief(x), brief(got), e)
				}
			}
			if got := Let(x, who); !slices.Equal(got, x) {
				t.Errorf("Let of %d records %v: %v", len(x), brief(x), brief(got))
			}
		}
	}
}

// P3.2
func TestLet(t *testing.T) {
	x := []api.Record{rec(5, 2), rec(0, 0), rec(7, 8), rec(4, 2), rec(last, 1)}
	for who, want := range map[int][]api.Record{
		1: with(x, 4, rec(last, 0)),
		2: {rec(5, 0), rec(0, 0), rec(7, 8), rec(4, 0), rec(last, 1)},
		3: x,
		8: with(x, 2, rec(7, 0)),
	} {
		if got := Let(x, who); !slices.Equal(got, want) {
			t.Errorf("Let by %d: %v, want %v", who, got, want)
		}
	}
	for _, x := range rightTables() {
		for who := 1; who <= api.MaxThreads; who++ {
			want := slices.Clone(x)
			for _, place := range heldBy(x, who) {
				want[place].Owner = 0
			}
			if got := Let(x, who); !slices.Equal(got, want) {
				t.Errorf("Let of %v by %d: %v", brief(x), who, brief(got))
			}
		}
	}
}

// P3.2
func TestLetByNobody(t *testing.T) {
	for _, x := range rightTables() {
		for _, who := range nobodies() {
			if got := Let(x, who); !slices.Equal(got, x) {
				t.Errorf("Let of %v by %d: %v", brief(x), who, brief(got))
			}
		}
	}
}

// P3.2
func TestStamp(t *testing.T) {
	x := []api.Record{rec(5, 2), rec(0, 0), rec(7, 8), rec(4, 2), rec(last, 1), rec(last, 0), rec(20, 3)}
	two := func(version int) []api.Record {
		return with(with(x, 0, rec(version, 0)), 3, rec(version, 0))
	}
	for _, c := range []struct {
		name         string
		who, version int
		want         []api.Record
		fault        api.Errno
	}{
		{"one above both", 2, 6, two(6), api.OK},
		{"far above both", 2, 1000, two(1000), api.OK},
		{"the last one", 2, last, two(last), api.OK},
		{"the greater one", 2, 5, x, api.ErrClock},
		{"the lesser one", 2, 4, x, api.ErrClock},
		{"below both", 2, 3, x, api.ErrClock},
		{"0", 2, 0, x, api.ErrClock},
		{"below what others have", 8, 8, with(x, 2, rec(8, 0)), api.OK},
		{"the same", 8, 7, x, api.ErrClock},
		{"past the last one", 2, last + 1, x, api.ErrClock},
		{"below 0", 2, -1, x, api.ErrClock},
		{"where none is left", 1, last, x, api.ErrClock},
		{"where none is left, past it", 1, last + 1, x, api.ErrClock},
		{"0, of nothing held", 4, 0, x, api.OK},
		{"the last one, of nothing held", 4, last, x, api.OK},
		{"below 0, of nothing held", 4, -1, x, api.ErrClock},
		{"past the last one, of nothing held", 4, last + 1, x, api.ErrClock},
	} {
		if got, e := Stamp(x, c.who, c.version); e != c.fault || !slices.Equal(got, c.want) {
			t.Errorf("Stamp of %s: %v, %d, want %v, %d", c.name, got, e, c.want, c.fault)
		}
	}
}

// P3.2: versions at the edge of each record that is held, of every right table.
func TestStampAtTheEdge(t *testing.T) {
	for _, x := range rightTables() {
		for who := 1; who <= api.MaxThreads; who++ {
			top := -1
			for _, place := range heldBy(x, who) {
				top = max(top, x[place].Version)
			}
			for _, version := range []int{0, 1, top - 1, top, top + 1, top + 2, last - 1, last, last + 1} {
				want, fault := slices.Clone(x), api.ErrClock
				if top < version && version <= last {
					fault = api.OK
					for _, place := range heldBy(x, who) {
						want[place] = rec(version, 0)
					}
				}
				if got, e := Stamp(x, who, version); e != fault || !slices.Equal(got, want) {
					t.Errorf("Stamp of %v by %d, %d: %v, %d", brief(x), who, version, brief(got), e)
				}
			}
		}
	}
}

// P3.2: one record that is not below, wherever it stands.
func TestStampLooksAtEachRecord(t *testing.T) {
	for place := range api.MaxRecords {
		x := with(slices.Repeat([]api.Record{rec(5, 6)}, api.MaxRecords), place, rec(8, 6))
		for _, version := range []int{6, 7, 8} {
			if got, e := Stamp(x, 6, version); e != api.ErrClock || !slices.Equal(got, x) {
				t.Errorf("Stamp of %d, where %d has 8: %v, %d", version, place, got, e)
			}
		}
		if got, e := Stamp(x, 6, 9); e != api.OK || !slices.Equal(got, slices.Repeat([]api.Record{rec(9, 0)}, api.MaxRecords)) {
			t.Errorf("Stamp of 9, where %d has 8: %v, %d", place, got, e)
		}
	}
}

// P3.2: ErrArg comes ahead of ErrClock.
func TestStampOfWrongArguments(t *testing.T) {
	for _, x := range rightTables() {
		for _, who := range nobodies() {
			for _, version := range append(wrongVersions(), 0, 1, 200, last) {
				if got, e := Stamp(x, who, version); e != api.ErrArg || !slices.Equal(got, x) {
					t.Errorf("Stamp of %v by %d, %d: %v, %d", brief(x), who, version, brief(got), e)
				}
			}
		}
		for who := 1; who <= api.MaxThreads; who++ {
			for _, version := range wrongVersions() {
				if got, e := Stamp(x, who, version); e != api.ErrClock || !slices.Equal(got, x) {
					t.Errorf("Stamp of %v by %d, %d: %v, %d", brief(x), who, version, brief(got), e)
				}
			}
		}
	}
}

// call is one call of those that answer records.
type call struct {
	name string
	do   func(t []api.Record) []api.Record
}

// calls are those that answer records, with arguments right and wrong.
func calls() []call {
	var all []call
	for _, who := range []int{0, 1, 2, api.MaxThreads, api.MaxThreads + 1} {
		all = append(all, call{"Let", func(t []api.Record) []api.Record { return Let(t, who) }})
		for _, cells := range [][]int{nil, {0}, {1, 2}, {0, 0, 5}, {-1}} {
			all = append(all, call{"Lock", func(t []api.Record) []api.Record { x, _ := Lock(t, who, cells...); return x }})
		}
		for _, version := range []int{-1, 0, 6, 1000, last, last + 1} {
			all = append(all, call{"Stamp", func(t []api.Record) []api.Record { x, _ := Stamp(t, who, version); return x }})
		}
	}
	return all
}

// R1: the records stay as they were, those behind the end of the list too, and
// the answer is memory of its own, so that neither side is written through it.
func TestRecordsStayAsTheyWere(t *testing.T) {
	spare := []api.Record{rec(71, 1), rec(72, 2), rec(73, 0)}
	for _, was := range append(rightTables(), wrongTables()...) {
		for _, c := range calls() {
			room := append(slices.Clone(was), spare...)
			given := room[:len(was)]
			answer := c.do(given)
			told := slices.Clone(answer)
			behind := append(answer, rec(1, 1))
			for i := range behind {
				behind[i] = rec(-1234, -1234)
			}
			for i := range answer {
				answer[i] = rec(-1234, -1234)
			}
			if !slices.Equal(given, was) || !slices.Equal(room[len(was):], spare) {
				t.Fatalf("%s changed %v into %v", c.name, brief(was), brief(given))
			}
			answer = c.do(given)
			for i := range room {
				room[i] = rec(-4321, -4321)
			}
			if !slices.Equal(answer, told) {
				t.Fatalf("%s of %v kept what it was handed", c.name, brief(was))
			}
		}
	}
}

// R1: so do they with those that answer no records.
func TestLookingChangesNothing(t *testing.T) {
	for _, was := range append(rightTables(), wrongTables()...) {
		given := slices.Clone(was)
		Right(given)
		for who := range api.MaxThreads + 2 {
			first := Held(given, who)
			told := slices.Clone(first)
			for i := range first {
				first[i] = -1
			}
			if again := Held(given, who); !slices.Equal(again, told) {
				t.Fatalf("Held of %v by %d told %v the second time", brief(was), who, again)
			}
		}
		first := Of(given, 5, 0, 5, 3)
		told := slices.Clone(first)
		for i := range first {
			first[i] = -1
		}
		if again := Of(given, 5, 0, 5, 3); !slices.Equal(again, told) {
			t.Fatalf("Of %v told %v the second time", brief(was), again)
		}
		if !slices.Equal(given, was) {
			t.Fatalf("%v became %v", brief(was), brief(given))
		}
	}
}

// R1: the cells stay as they were, and no answer is memory of theirs.
func TestCellsStayAsTheyWere(t *testing.T) {
	for _, x := range append(rightTables(), nil) {
		for _, was := range [][]int{{}, {0}, {1, 0}, {5, 3, 3, 0, 17}, {2, 0, -1}, {0, 1, 2}} {
			room := append(slices.Clone(was), 71, 72)
			given := room[:len(was)]
			for who := range 4 {
				Lock(x, who, given...)
			}
			places := Of(x, given...)
			for i := range places {
				places[i] = -1
			}
			if !slices.Equal(room, append(slices.Clone(was), 71, 72)) {
				t.Fatalf("of %v the cells %v became %v", brief(x), was, room)
			}
		}
	}
}

// book is a table told another way: who holds a place, and what version it has.
type book struct {
	size             int
	holder, versions map[int]int
}

func (b book) copy() book {
	return book{b.size, maps.Clone(b.holder), maps.Clone(b.versions)}
}

func (b book) same(t []api.Record) bool {
	if len(t) != b.size {
		return false
	}
	for place, r := range t {
		if r != rec(b.versions[place], b.holder[place]) {
			return false
		}
	}
	return true
}

func (b book) lock(who int, cells []int) (book, api.Errno) {
	after := b.copy()
	for _, cell := range cells {
		if holder, held := b.holder[cell%b.size]; held && holder != who {
			return b, api.ErrLock
		}
		after.holder[cell%b.size] = who
	}
	return after, api.OK
}

func (b book) let(who int) book {
	after := b.copy()
	maps.DeleteFunc(after.holder, func(_, holder int) bool { return holder == who })
	return after
}

func (b book) stamp(who, version int) (book, api.Errno) {
	after := b.let(who)
	for place, holder := range b.holder {
		if holder == who && version <= b.versions[place] {
			return b, api.ErrClock
		}
		if holder == who {
			after.versions[place] = version
		}
	}
	return after, api.OK
}

// follows tells whether P3.3 holds between a table and the one behind it.
func follows(was, is []api.Record) bool {
	for place := range was {
		taken := was[place].Owner != 0 && is[place].Owner != 0 && is[place].Owner != was[place].Owner
		if taken || is[place].Version < was[place].Version {
			return false
		}
	}
	return true
}

// walk does each call on x and b side by side, and goes on from each answer.
func walk(t *testing.T, x []api.Record, b book, steps int) {
	check := func(name string, got []api.Record, e api.Errno, after book, want api.Errno) {
		if e != want || !after.same(got) || !Right(got) || !follows(x, got) {
			t.Fatalf("%s of %v: %v, %d, want %v, %v, %d", name, x, got, e, after.holder, after.versions, want)
		}
		if steps > 1 && e == api.OK {
			walk(t, got, after, steps-1)
		}
	}
	for who := 1; who <= 2; who++ {
		for first := range len(x) {
			for second := first; second < len(x); second++ {
				cells := []int{second + len(x), first}
				got, e := Lock(x, who, cells...)
				after, want := b.lock(who, cells)
				check("Lock", got, e, after, want)
			}
		}
		check("Let", Let(x, who), api.OK, b.let(who), api.OK)
		for _, version := range []int{1, 2} {
			got, e := Stamp(x, who, version)
			after, want := b.stamp(who, version)
			check("Stamp", got, e, after, want)
		}
	}
}

// P3.1 to P3.3: every run of a few calls of two, on a few records.
func TestEveryShortRun(t *testing.T) {
	for size, steps := range map[int]int{1: 6, 2: 5, 3: 4} {
		x, _ := New(size)
		walk(t, x, book{size, map[int]int{}, map[int]int{}}, steps)
	}
}
