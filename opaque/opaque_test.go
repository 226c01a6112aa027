package opaque

import (
	"math"
	"slices"
	"testing"

	"handshaker/api"
)

const (
	end      = api.MaxClock
	least    = -api.MaxValue - 1
	greatest = api.MaxValue
	turn     = 1 << 32
)

var dead = api.Cell{}

func live(value int) api.Cell                   { return api.Cell{Live: true, Value: value} }
func cells(h ...api.Cell) []api.Cell            { return h }
func state(version int, h ...api.Cell) State    { return State{Version: version, Heap: h} }
func past(p ...State) []State                   { return p }
func lastOf(p []State) State                    { return p[len(p)-1] }
func put(cell, value int) api.Write             { return api.Write{Cell: cell, Value: value} }
func writes(l ...api.Write) []api.Write         { return l }
func readsOf(l ...api.Read) []api.Read          { return l }
func isVersion(n int) bool                      { return 0 <= n && n <= end }
func with[T any](l []T, place int, other T) []T { l = slices.Clone(l); l[place] = other; return l }

func read(cell, version, value int) api.Read {
	return api.Read{Cell: cell, Version: version, Value: value}
}

func sameState(s, other State) bool {
	return s.Version == other.Version && slices.Equal(s.Heap, other.Heap)
}

func samePast(p, other []State) bool {
	return slices.EqualFunc(p, other, sameState)
}

func pastCopy(p []State) []State {
	p = slices.Clone(p)
	for place := range p {
		p[place].Heap = slices.Clone(p[place].Heap)
	}
	return p
}

// long is a heap of n live cells.
func long(n int) []api.Cell {
	h := []api.Cell{}
	for cell := range n {
		h = append(h, live(100+cell))
	}
	return h
}

// many is a past of n heaps of so many cells, each third of which is not live, as of
// the versions 4, 7, 10 ..: the first cell has the version as its value.
func many(n, size int) []State {
	var p []State
	for place := range n {
		h := long(size)
		for cell := 2; cell < size; cell += 3 {
			h[cell] = dead
		}
		h[0].Value = 4 + 3*place
		p = append(p, State{Version: 4 + 3*place, Heap: h})
	}
	return p
}

// usual is the past that most tests ask of: its versions have room ahead of them,
// between them and behind them, and its third cell is not live.
func usual() []State {
	return past(
		state(3, live(1), live(1), dead, live(-7)),
		state(5, live(2), live(1), dead, live(-7)),
		state(6, live(2), live(2), dead, live(-7)),
		state(9, live(1), live(2), dead, live(-7)),
	)
}

// rightHeaps are heaps of each length, of live cells, of none and of some, with
// values at the ends.
func rightHeaps() [][]api.Cell {
	all := [][]api.Cell{
		cells(dead), cells(live(0)), cells(live(1)), cells(live(least)), cells(live(greatest)), cells(live(least + 1)), cells(live(greatest - 1)),
		cells(dead, live(7)), cells(live(7), dead), cells(live(0), dead, live(-1)), cells(dead, dead), cells(live(least), dead, live(greatest)),
	}
	for n := 1; n <= 64; n++ {
		all = append(all, make([]api.Cell, n), long(n))
	}
	return all
}

// wrongHeaps are none, of one thing each.
func wrongHeaps() [][]api.Cell {
	all := [][]api.Cell{
		nil, {}, make([]api.Cell, 65), long(65), make([]api.Cell, 128), long(256), make([]api.Cell, 1<<16+1),
		cells(api.Cell{Value: 1}), cells(api.Cell{Value: -1}), cells(dead, api.Cell{Value: greatest}), cells(api.Cell{Value: turn}, live(1)),
		append(make([]api.Cell, 63), api.Cell{Value: 1}), append(long(63), api.Cell{Value: least}),
	}
	for _, value := range []int{least - 1, least - 2, greatest + 1, greatest + 2, turn, turn + 1, -turn, math.MinInt, math.MaxInt} {
		all = append(all, cells(live(value)), cells(live(value), live(1)), cells(live(1), live(value)), append(long(63), live(value)))
	}
	return all
}

func rightVersions() []int {
	return []int{0, 1, 2, 7, 1 << 16, end - 1, end}
}

// wrongVersions are none; some of them come back to one if they are cut to fewer bits.
func wrongVersions() []int {
	return []int{-1, -2, -end, -end - 1, -end - 2, end + 1, end + 2, turn - 1, turn, turn + 7, -turn, -turn + 7, math.MinInt, math.MinInt + 7, math.MaxInt}
}

// rightPasts are of one heap, of two, and of many.
func rightPasts() [][]State {
	all := [][]State{
		usual(),
		past(state(0, live(1)), state(5, live(2))), // the chapter's example
		past(state(0, live(1)), state(1, live(1))),
		past(state(end-1, live(1)), state(end, live(1))),
		past(state(0, live(1)), state(end, live(2))),
		past(state(0, dead), state(1, dead), state(2, dead)),
		past(state(0, dead, live(0)), state(1, dead, live(9)), state(end-1, dead, live(least)), state(end, dead, live(greatest))),
		many(2, 64), many(3, 1), many(50, 4), many(300, 64),
	}
	for _, h := range rightHeaps() {
		for _, version := range []int{0, 7, end} {
			all = append(all, past(state(version, h...)))
		}
	}
	for _, version := range rightVersions() {
		all = append(all, past(state(version, live(3), dead)))
	}
	return all
}

// wrongPasts are none: of no heap, of a wrong version or heap at each end and between,
// of versions that don't rise, of heaps that aren't as long, or aren't live alike.
func wrongPasts() [][]State {
	all := [][]State{nil, {}, past(State{}), past(State{}, State{})}
	for _, version := range wrongVersions() {
		all = append(all, past(state(version, live(1))))
		for place, s := range usual() {
			all = append(all, with(usual(), place, state(version, s.Heap...)))
		}
	}
	for _, h := range wrongHeaps() {
		all = append(all, past(state(0, h...)), past(state(end, h...)), past(state(2, h...), state(3, h...)))
		for place, s := range usual() {
			all = append(all, with(usual(), place, state(s.Version, h...)))
		}
	}
	for place := 1; place < len(usual()); place++ {
		s, ahead := usual()[place], usual()[place-1]
		for _, version := range []int{ahead.Version, ahead.Version - 1, 0, usual()[0].Version} {
			all = append(all, with(usual(), place, state(version, s.Heap...)))
		}
		for _, h := range [][]api.Cell{
			s.Heap[:3], append(slices.Clone(s.Heap), dead), append(slices.Clone(s.Heap), live(1)), s.Heap[:1], long(64), // not as long
			cells(live(2), live(1), live(0), live(-7)), cells(live(2), live(1), dead, dead), cells(dead, live(1), dead, live(-7)), // one live or not
			cells(live(2), dead, live(1), live(-7)), cells(dead, dead, dead, dead), // as many live ones, and none
		} {
			all = append(all, with(usual(), place, state(s.Version, h...)))
		}
	}
	return append(all, with(usual(), 0, state(3, live(1))), with(usual(), 0, state(3, live(1), live(1), live(0), live(-7))), with(usual(), 0, state(5, usual()[0].Heap...)))
}

// brief keeps what is long out of the tests' messages.
func brief(p []State) []State {
	p = slices.Clone(p[:min(len(p), 4)])
	for place, s := range p {
		p[place].Heap = s.Heap[:min(len(s.Heap), 8)]
	}
	return p
}

// P13.1
func TestRightOfPasts(t *testing.T) {
	for _, p := range rightPasts() {
		if !Right(p) {
			t.Errorf("Right of %d heaps %v: false", len(p), brief(p))
		}
	}
}

// P13.1
func TestRightOfNoPasts(t *testing.T) {
	for _, p := range wrongPasts() {
		if Right(p) {
			t.Errorf("Right of %d heaps %v: true", len(p), brief(p))
		}
	}
}

// P13.1: a past may have more heaps than anything else here has parts.
func TestRightOfVeryMany(t *testing.T) {
	for _, n := range []int{64, 65, 255, 256, 257, 1<<16 + 1} {
		p := many(n, 1)
		if !Right(p) {
			t.Errorf("Right of %d heaps: false", n)
		}
		p[n-1].Version = p[n-2].Version
		if Right(p) {
			t.Errorf("Right of %d heaps, the last two of one version: true", n)
		}
	}
}

// P13.1: each heap is looked at, wherever it stands, and each cell of it.
func TestRightLooksAtEachCell(t *testing.T) {
	for place := range 5 {
		for cell := range 64 {
			for _, other := range []api.Cell{live(greatest + 1), live(least - 1), {Value: 1}, {Value: -1}} {
				p := many(5, 64)
				p[place].Heap[cell] = other
				if Right(p) {
					t.Errorf("Right with %v at %d of the heap %d: true", other, cell, place)
				}
			}
			p := many(5, 64)
			p[place].Heap[cell] = api.Cell{Live: !p[place].Heap[cell].Live}
			if Right(p) {
				t.Errorf("Right with the cell %d of the heap %d live or not, unlike all others: true", cell, place)
			}
			for other := range p {
				p[other].Heap[cell] = p[place].Heap[cell]
			}
			if !Right(p) {
				t.Errorf("Right with the cell %d of all heaps turned about: false", cell)
			}
		}
	}
}

// P13.1: each two lengths.
func TestRightLooksAtEachLength(t *testing.T) {
	for first := range 66 {
		for second := range 66 {
			want := first == second && 1 <= first && first <= 64
			for _, fill := range []func(int) []api.Cell{long, func(n int) []api.Cell { return make([]api.Cell, n) }} {
				if got := Right(past(state(0, fill(first)...), state(1, fill(second)...))); got != want {
					t.Errorf("Right of heaps of %d and of %d cells: %v", first, second, got)
				}
			}
		}
	}
}

// P13.1: each two versions.
func TestRightLooksAtEachVersion(t *testing.T) {
	for _, first := range append(rightVersions(), wrongVersions()...) {
		for _, second := range append(rightVersions(), wrongVersions()...) {
			want := isVersion(first) && isVersion(second) && first < second
			if got := Right(past(state(first, live(1)), state(second, live(1)))); got != want {
				t.Errorf("Right of the versions %d and %d: %v", first, second, got)
			}
		}
	}
}

// isPast is what Right asks, by the chapter's words taken one by one, without a call
// of another layer.
func isPast(p []State) bool {
	right := len(p) >= 1
	for place, s := range p {
		right = right && isVersion(s.Version) && 1 <= len(s.Heap) && len(s.Heap) <= 64
		for _, c := range s.Heap {
			right = right && least <= c.Value && c.Value <= greatest && (c.Live || c.Value == 0)
		}
		for _, ahead := range p[:place] {
			right = right && ahead.Version < s.Version && len(ahead.Heap) == len(s.Heap)
			for cell := range min(len(ahead.Heap), len(s.Heap)) {
				right = right && ahead.Heap[cell].Live == s.Heap[cell].Live
			}
		}
	}
	return right
}

// smallStates are those of a few versions, and of each heap of few cells.
func smallStates() []State {
	kinds := []api.Cell{dead, live(0), live(1), {Value: 1}}
	heaps := [][]api.Cell{nil}
	for _, c := range kinds {
		heaps = append(heaps, cells(c))
		for _, d := range kinds {
			heaps = append(heaps, cells(c, d))
		}
	}
	var all []State
	for _, version := range []int{-1, 0, 1, end, end + 1} {
		for _, h := range heaps {
			all = append(all, State{Version: version, Heap: h})
		}
	}
	return all
}

// P13.1: every list of up to three of them.
func TestRightOfEachSmallPast(t *testing.T) {
	all, count := smallStates(), 0
	check := func(p []State) {
		want := isPast(p)
		if got := Right(p); got != want {
			t.Fatalf("Right(%v): %v", p, got)
		}
		if want {
			count++
		}
	}
	for _, first := range all {
		check(past(first))
		for _, second := range all {
			check(past(first, second))
			for _, third := range all {
				check(past(first, second, third))
			}
		}
	}
	// Of heaps live alike there are, of one cell, 1 and 2, and of two cells 1, 2, 2
	// and 4; one, two or all of the 3 versions are theirs.
	if want := 3*(3+9) + 3*(1+4+1+4+4+16) + (1 + 8 + 1 + 8 + 8 + 64); count != want {
		t.Errorf("%d pasts, want %d", count, want)
	}
}

// P13.1: each version beside each heap; and R2.
func TestBegin(t *testing.T) {
	heaps := append(rightHeaps(), wrongHeaps()...)
	versions := append(rightVersions(), wrongVersions()...)
	for place, h := range heaps {
		for _, version := range versions {
			p, e := Begin(version, h)
			if place < len(rightHeaps()) && isVersion(version) {
				if e != api.OK || !samePast(p, past(state(version, h...))) || !Right(p) {
					t.Errorf("Begin of %d and %d cells: %v, %d", version, len(h), brief(p), e)
				}
			} else if e != api.ErrArg || len(p) != 0 {
				t.Errorf("Begin of %d and %d cells: %v, %d", version, len(h), brief(p), e)
			}
		}
	}
}

// wantNext asks for what Next answers, and that it is a past.
func wantNext(t *testing.T, p []State, version int, l []api.Write, h ...api.Cell) []State {
	t.Helper()
	want := append(pastCopy(p), state(version, h...))
	got, e := Next(p, version, l...)
	if e != api.OK || !samePast(got, want) || !Right(got) {
		t.Errorf("Next of %v, %d and %v: %v, %d, want %v", brief(p), version, l, brief(got), e, brief(want))
	}
	return got
}

func wantNoNext(t *testing.T, p []State, version int, l []api.Write, want api.Errno) {
	t.Helper()
	got, e := Next(p, version, l...)
	if e != want || !samePast(got, p) {
		t.Errorf("Next of %d heaps %v, %d and %v: %v, %d, want %d", len(p), brief(p), version, l, brief(got), e, want)
	}
}

// P13.1
func TestNext(t *testing.T) {
	for _, c := range []struct {
		l    []api.Write
		want []api.Cell
	}{
		{nil, cells(live(1), live(2), dead, live(-7))},
		{writes(), cells(live(1), live(2), dead, live(-7))},
		{writes(put(0, 5)), cells(live(5), live(2), dead, live(-7))},
		{writes(put(3, 5)), cells(live(1), live(2), dead, live(5))},
		{writes(put(0, 1)), cells(live(1), live(2), dead, live(-7))}, // what was there
		{writes(put(0, 0), put(1, 0), put(3, 0)), cells(live(0), live(0), dead, live(0))},
		{writes(put(3, least), put(0, greatest)), cells(live(greatest), live(2), dead, live(least))},
		{writes(put(1, 5), put(1, 6), put(1, 4)), cells(live(1), live(4), dead, live(-7))}, // one behind the other
		{writes(put(1, 5), put(0, 8), put(1, 2)), cells(live(8), live(2), dead, live(-7))},
	} {
		for _, version := range []int{10, 11, 1 << 20, end - 1, end} {
			wantNext(t, usual(), version, c.l, c.want...)
		}
	}
	wantNext(t, past(state(0, live(1))), 5, writes(put(0, 2)), live(2))
	wantNext(t, past(state(0, dead)), 1, nil, dead)
	wantNext(t, past(state(end-1, dead, live(4))), end, writes(put(1, 3)), dead, live(3))
}

// P13.1: it goes from the last heap on, not from the first one, and leaves those
// ahead as they were.
func TestNextOfNext(t *testing.T) {
	p, _ := Begin(0, long(64))
	h := long(64)
	for n := range 200 {
		cell := n * 7 % 64
		h = with(h, cell, live(-n))
		p = wantNext(t, p, 2*n+1, writes(put(cell, n), put(cell, -n)), h...)
	}
	if len(p) != 201 {
		t.Errorf("%d heaps", len(p))
	}
}

// P13.1: more writes than a try may have.
func TestNextOfManyWrites(t *testing.T) {
	var l []api.Write
	want := long(64)
	for n := range 1000 {
		l = append(l, put(n*5%64, n))
		want[n*5%64] = live(n)
	}
	wantNext(t, past(state(7, long(64)...)), 8, l, want...)
	wantNoNext(t, past(state(7, long(64)...)), 8, append(l, put(64, 1)), api.ErrNone)
	wantNoNext(t, past(state(7, long(64)...)), 8, append(l, put(64, 1), put(3, turn)), api.ErrArg)
}

// rightWrites may be made in the usual past.
func rightWrites() [][]api.Write {
	return [][]api.Write{nil, {}, writes(put(0, 5)), writes(put(3, least), put(1, greatest)), writes(put(0, 1), put(0, 2), put(1, 3), put(3, 4))}
}

// P13.1: of each version that is not above the last one, or none.
func TestNextOfWrongVersions(t *testing.T) {
	for _, p := range [][]State{usual(), many(300, 64), past(state(0, live(4))), past(state(7, live(4))), past(state(end, live(4))), past(state(4, live(1)), state(end, live(1)))} {
		last := lastOf(p).Version
		wrong := append(wrongVersions(), last, last-1, last-2, 0, p[0].Version, p[0].Version-1)
		for _, version := range wrong {
			for _, l := range [][]api.Write{nil, {}, writes(put(0, 5)), writes(put(0, 5), put(0, 6)), writes(put(9, 1)), writes(put(0, turn)), writes(put(-1, 0))} {
				wantNoNext(t, p, version, l, api.ErrArg)
			}
		}
		if last < end {
			wantNext(t, p, last+1, writes(put(0, 5)), with(lastOf(p).Heap, 0, live(5))...)
			wantNext(t, p, end, writes(put(0, 5)), with(lastOf(p).Heap, 0, live(5))...)
		}
	}
	for version := range 10 {
		wantNoNext(t, usual(), version, nil, api.ErrArg)
	}
}

// P13.1: of what is no past, whatever the version and the writes are.
func TestNextOfNoPast(t *testing.T) {
	for _, p := range wrongPasts() {
		for _, version := range []int{0, 10, end, -1, end + 1} {
			for _, l := range [][]api.Write{nil, writes(put(0, 5)), writes(put(2, 5)), writes(put(70, 5)), writes(put(0, turn))} {
				wantNoNext(t, p, version, l, api.ErrArg)
			}
		}
	}
}

// P13.1: layer 2's errors of the writes, wherever they stand; ErrArg ahead of ErrNone.
func TestNextOfWrongWrites(t *testing.T) {
	for _, right := range rightWrites() {
		for place := range len(right) + 1 {
			for _, cell := range []int{2, 4, 5, 63, 64, turn, turn + 1, math.MaxInt, -1, -4, -turn, math.MinInt} {
				l := slices.Insert(slices.Clone(right), place, put(cell, 5))
				wantNoNext(t, usual(), 10, l, api.ErrNone)
				wantNoNext(t, usual(), end, l, api.ErrNone)
				for _, value := range []int{least - 1, greatest + 1, turn, math.MinInt, math.MaxInt} {
					wantNoNext(t, usual(), 10, slices.Insert(slices.Clone(right), place, put(cell, value)), api.ErrArg)
					wantNoNext(t, usual(), 10, append(slices.Clone(l), put(0, value)), api.ErrArg)
					wantNoNext(t, usual(), 10, slices.Insert(slices.Clone(l), 0, put(1, value)), api.ErrArg)
				}
			}
			for _, value := range []int{least - 1, greatest + 1, turn, turn + 5, -turn, math.MinInt, math.MaxInt} {
				wantNoNext(t, usual(), 10, slices.Insert(slices.Clone(right), place, put(1, value)), api.ErrArg)
			}
		}
	}
	for cell := -1; cell <= 65; cell++ {
		p := many(4, 64)
		if 0 <= cell && cell < 64 && (cell < 2 || cell%3 != 2) {
			wantNext(t, p, 14, writes(put(cell, 5)), with(lastOf(p).Heap, cell, live(5))...)
		} else {
			wantNoNext(t, p, 14, writes(put(cell, 5)), api.ErrNone)
		}
	}
}

func wantAt(t *testing.T, p []State, version int, want []api.Cell) {
	t.Helper()
	if h, e := At(p, version); e != api.OK || !slices.Equal(h, want) {
		t.Errorf("At of %v, %d: %v, %d, want %v", brief(p), version, h, e, want)
	}
}

func wantNoAt(t *testing.T, p []State, version int, want api.Errno) {
	t.Helper()
	if h, e := At(p, version); e != want || len(h) != 0 {
		t.Errorf("At of %v, %d: %v, %d, want %d", brief(p), version, h, e, want)
	}
}

// P13.2: the chapter's example.
func TestExample(t *testing.T) {
	p, _ := Begin(0, cells(live(1)))
	p, _ = Next(p, 5, put(0, 2))
	for version, value := range []int{1, 1, 1, 1, 1, 2, 2} {
		wantAt(t, p, version, cells(live(value)))
	}
}

// P13.2: ahead of the first version there is none; of all others the last one that is
// not above, behind the last version too. No other error is named, so that what is no
// version is held against those that are like any number.
func TestAt(t *testing.T) {
	p := usual()
	for _, version := range []int{0, 1, 2, -1, -3, -turn, -turn + 5, math.MinInt, math.MinInt + 9} {
		wantNoAt(t, p, version, api.ErrNone)
	}
	for version, place := range map[int]int{
		3: 0, 4: 0, 5: 1, 6: 2, 7: 2, 8: 2, 9: 3, 10: 3, 1 << 20: 3, end - 1: 3, end: 3, end + 1: 3, turn: 3, turn + 4: 3, math.MaxInt: 3,
	} {
		wantAt(t, p, version, p[place].Heap)
	}
}

// P13.2: the versions at both ends.
func TestAtTheEnds(t *testing.T) {
	p := past(state(0, live(least), dead), state(1, live(0), dead), state(end-1, live(7), dead), state(end, live(greatest), dead))
	for version, place := range map[int]int{0: 0, 1: 1, 2: 1, end - 2: 1, end - 1: 2, end: 3, end + 1: 3, math.MaxInt: 3} {
		wantAt(t, p, version, p[place].Heap)
	}
	for _, version := range []int{-1, -end, -turn, math.MinInt} {
		wantNoAt(t, p, version, api.ErrNone)
	}
	for _, version := range []int{0, 1, end - 2, end - 1, end} {
		for _, h := range rightHeaps() {
			one := past(state(version, h...))
			wantNoAt(t, one, version-1, api.ErrNone)
			wantNoAt(t, one, math.MinInt, api.ErrNone)
			wantAt(t, one, version, h)
			wantAt(t, one, version+1, h)
			wantAt(t, one, math.MaxInt, h)
		}
	}
}

// P13.2: of pasts of each length, ahead of, at, between and behind all versions.
func TestAtOfMany(t *testing.T) {
	for _, n := range []int{1, 2, 3, 4, 5, 6, 7, 8, 9, 15, 16, 17, 31, 100} {
		p := many(n, 3)
		for version := range 3*n + 8 {
			if version < 4 {
				wantNoAt(t, p, version, api.ErrNone)
				continue
			}
			wantAt(t, p, version, p[min((version-4)/3, n-1)].Heap)
		}
	}
}

// P13.2, R2: ErrArg comes ahead of ErrNone; and Holds and Span of what is no past,
// with reads that all of its heaps have, or without one.
func TestOfNoPast(t *testing.T) {
	for _, p := range wrongPasts() {
		for _, version := range []int{math.MinInt, -1, 0, 2, 3, 4, 9, 10, end, end + 1, math.MaxInt} {
			wantNoAt(t, p, version, api.ErrArg)
			for _, l := range [][]api.Read{nil, {}, readsOf(read(3, 0, -7)), readsOf(read(0, 0, 1)), readsOf(read(1, 0, 1))} {
				if Holds(p, version, l) {
					t.Errorf("Holds of %d heaps %v, %d and %v: true", len(p), brief(p), version, l)
				}
			}
		}
		for _, l := range [][]api.Read{nil, {}, readsOf(read(3, 0, -7)), readsOf(read(0, 0, 1)), readsOf(read(0, 0, 2), read(1, 0, 1))} {
			if got := Span(p, l); len(got) != 0 {
				t.Errorf("Span of %d heaps %v and %v: %v", len(p), brief(p), l, got)
			}
		}
	}
}

// wantSpan asks for what Span answers, and for what Holds does ahead of the first
// version, at each, between them, and behind.
func wantSpan(t *testing.T, p []State, l []api.Read, want ...int) {
	t.Helper()
	if got := Span(p, l); !slices.Equal(got, want) {
		t.Errorf("Span of %v and %v: %v, want %v", brief(p), l, got, want)
	}
	for place, s := range p {
		next := s.Version + 4
		if place+1 < len(p) {
			next = p[place+1].Version
		}
		for version := s.Version; version < min(next, s.Version+4); version++ {
			if got := Holds(p, version, l); got != slices.Contains(want, s.Version) {
				t.Errorf("Holds of %v, %d and %v: %v", brief(p), version, l, got)
			}
		}
		if got := Holds(p, next-1, l); got != slices.Contains(want, s.Version) {
			t.Errorf("Holds of %v, %d and %v: %v", brief(p), next-1, l, got)
		}
	}
	for _, version := range []int{p[0].Version - 1, p[0].Version - 2, -1, -turn, math.MinInt} {
		if Holds(p, version, l) {
			t.Errorf("Holds of %v, %d and %v: true", brief(p), version, l)
		}
	}
	for _, version := range []int{max(end, lastOf(p).Version), end + 1, turn + 3, math.MaxInt} {
		if got := Holds(p, version, l); got != slices.Contains(want, lastOf(p).Version) {
			t.Errorf("Holds of %v, %d and %v: %v", brief(p), version, l, got)
		}
	}
}

// P13.2: reads that hold as of none, of one, of several, and of all.
func TestHoldsAndSpan(t *testing.T) {
	p := usual()
	for _, c := range []struct {
		l    []api.Read
		want []int
	}{
		{nil, []int{3, 5, 6, 9}},
		{readsOf(), []int{3, 5, 6, 9}},
		{readsOf(read(3, 0, -7)), []int{3, 5, 6, 9}},
		{readsOf(read(0, 0, 1)), []int{3, 9}},
		{readsOf(read(0, 0, 2)), []int{5, 6}},
		{readsOf(read(1, 0, 1)), []int{3, 5}},
		{readsOf(read(1, 0, 2)), []int{6, 9}},
		{readsOf(read(0, 0, 1), read(1, 0, 1)), []int{3}},
		{readsOf(read(1, 0, 1), read(0, 0, 2)), []int{5}},
		{readsOf(read(0, 0, 2), read(3, 0, -7), read(1, 0, 2)), []int{6}},
		{readsOf(read(0, 0, 1), read(1, 0, 2)), []int{9}},
		{readsOf(read(3, 0, -7), read(0, 0, 1)), []int{3, 9}},
		{readsOf(read(0, 0, 0)), nil},
		{readsOf(read(0, 0, 3)), nil},
		{readsOf(read(0, 0, -1)), nil},
		{readsOf(read(3, 0, 7)), nil},
		{readsOf(read(3, 0, -7), read(0, 0, 3)), nil},
		{readsOf(read(0, 0, 3), read(3, 0, -7)), nil},
		{readsOf(read(2, 0, 0)), nil}, // a cell that is not live has not even 0
		{readsOf(read(3, 0, -7), read(2, 0, 0)), nil},
		{readsOf(read(2, 0, 0), read(3, 0, -7)), nil},
		{readsOf(read(4, 0, 0)), nil}, // there is no such cell
		{readsOf(read(63, 0, 1)), nil},
		{readsOf(read(turn, 0, 1)), nil},
		{readsOf(read(math.MaxInt, 0, 1)), nil},
	} {
		wantSpan(t, p, c.l, c.want...)
	}
}

// P13.2: layer 5's Same does not ask which versions were read: none of them matters,
// be it of a heap that is there or not.
func TestHoldsWhateverWasReadAsOf(t *testing.T) {
	for _, version := range rightVersions() {
		wantSpan(t, usual(), readsOf(read(0, version, 1)), 3, 9)
		wantSpan(t, usual(), readsOf(read(1, 9, 1), read(0, version, 2)), 5)
	}
}

// wrongReads are no read set, though the usual past has all of their values that it may.
func wrongReads() [][]api.Read {
	all := [][]api.Read{
		readsOf(read(3, 0, -7), read(3, 0, -7)),
		readsOf(read(3, 0, -7), read(3, 1, -7)),
		readsOf(read(0, 3, 1), read(0, 5, 2)),
		readsOf(read(0, 3, 1), read(3, 3, -7), read(0, 3, 1)),
		slices.Repeat(readsOf(read(3, 0, -7)), 25),
		readsOf(read(-1, 0, -7)), readsOf(read(math.MinInt, 0, 1)), readsOf(read(-turn+3, 0, -7)), readsOf(read(3, 0, -7), read(-1, 0, 0)),
		readsOf(read(0, 0, turn+1)), readsOf(read(3, 0, turn-7)), readsOf(read(3, 0, least-1)), readsOf(read(3, 0, math.MaxInt)),
	}
	for _, version := range wrongVersions() {
		all = append(all, readsOf(read(3, version, -7)), readsOf(read(3, version, -7), read(0, 0, 1)), readsOf(read(0, 0, 1), read(3, version, -7)))
	}
	return all
}

// P13.2: what is no read set holds as of none.
func TestHoldsOfNoReadSet(t *testing.T) {
	for _, l := range wrongReads() {
		wantSpan(t, usual(), l)
	}
	big := past(state(0, long(64)...), state(4, long(64)...))
	var l []api.Read
	for n := range 30 {
		if n <= 24 {
			wantSpan(t, big, l, 0, 4)
		} else {
			wantSpan(t, big, l)
		}
		l = append(l, read(63-n, 1, 163-n))
	}
}

// P13.2: each read is looked at, wherever it stands, in each heap.
func TestHoldsLooksAtEachRead(t *testing.T) {
	var p []State
	var l []api.Read
	for n := range 24 {
		p = append(p, state(2*n, with(long(64), 60-2*n, live(7))...))
		l = append(l, read(60-2*n, 0, 160-2*n))
	}
	p = append(p, state(50, long(64)...))
	wantSpan(t, p, l, 50)
	for n := range l {
		wantSpan(t, p, slices.Delete(slices.Clone(l), n, n+1), 2*n, 50)
		other := slices.Clone(l)
		other[n].Value = 7
		wantSpan(t, p, other, 2*n)
	}
	for _, none := range []int{0, 1, 2} {
		wantSpan(t, p, readsOf(read(59-2*none, 0, 7)))
	}
}

// P13.2: values at both ends, and heaps of each length: the last cell is asked, and
// none behind it.
func TestHoldsAtTheEnds(t *testing.T) {
	for n := 1; n <= 64; n++ {
		h := long(n)
		p := past(state(0, h...), state(end-1, with(h, n-1, live(least))...), state(end, with(h, n-1, live(greatest))...))
		wantSpan(t, p, readsOf(read(n-1, 0, 99+n)), 0)
		wantSpan(t, p, readsOf(read(n-1, 0, least)), end-1)
		wantSpan(t, p, readsOf(read(n-1, 0, greatest)), end)
		wantSpan(t, p, readsOf(read(n-1, 0, least+1)))
		wantSpan(t, p, readsOf(read(n-1, 0, greatest-1)))
		wantSpan(t, p, readsOf(read(n, 0, 0)))
		wantSpan(t, p, readsOf(read(n, 0, 100+n)))
	}
}

// P13.2: in order, of as many heaps as there are.
func TestSpanOfMany(t *testing.T) {
	var p []State
	var all, even, third []int
	for n := range 400 {
		version := n*n + 3
		p = append(p, state(version, live(n%2), dead, live(n%3)))
		all = append(all, version)
		if n%2 == 0 {
			even = append(even, version)
		}
		if n%2 == 1 && n%3 == 2 {
			third = append(third, version)
		}
	}
	wantSpan(t, p, nil, all...)
	wantSpan(t, p, readsOf(read(0, 1, 0)), even...)
	wantSpan(t, p, readsOf(read(2, 1, 2), read(0, 1, 1)), third...)
	wantSpan(t, p, readsOf(read(0, 1, 2)))
}
