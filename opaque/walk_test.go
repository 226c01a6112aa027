package opaque

import (
	"math"
	"slices"
	"testing"

	"handshaker/api"
)

// picks tell numbers below a bound, always the same ones.
type picks uint64

func (p *picks) below(n int) int {
	*p = *p*6364136223846793005 + 1442695040888963407
	return int(uint64(*p)>>33) % n
}

// book is a past told by what was done: what was there at first, as of which version,
// and each Next's version and writes.
type book struct {
	first    []api.Cell
	versions []int
	writes   [][]api.Write
}

func (b book) next(version int, l []api.Write) book {
	b.versions = append(slices.Clone(b.versions), version)
	b.writes = append(slices.Clone(b.writes), l)
	return b
}

// value is that of a cell behind all writes as of a version, which is not ahead of
// the first one.
func (b book) value(cell, version int) int {
	value := b.first[cell].Value
	for place, l := range b.writes {
		for _, w := range l {
			if b.versions[place+1] <= version && w.Cell == cell {
				value = w.Value
			}
		}
	}
	return value
}

// broken is the first version behind one, as of which a cell of the reads, that have
// its values, was written with another value; and whether there is one.
func (b book) broken(version int, l []api.Read) (int, bool) {
	for place, writes := range b.writes {
		last := map[int]int{}
		for _, w := range writes {
			last[w.Cell] = w.Value
		}
		for _, r := range l {
			value, written := last[r.Cell]
			if b.versions[place+1] > version && written && value != r.Value {
				return b.versions[place+1], true
			}
		}
	}
	return 0, false
}

// all is each read set of what a heap has in its live cells, up to three of them.
func all(h []api.Cell) [][]api.Read {
	sets := [][]api.Read{nil}
	for cell, c := range h {
		for _, l := range slices.Clone(sets) {
			if c.Live && len(l) < 3 {
				sets = append(sets, append(slices.Clone(l), read(cell, cell, c.Value)))
			}
		}
	}
	return sets
}

// wantAsTold asks for all that is so of a past, as of each version from ahead of the
// first one to behind the last one: what At answers, and that what holds does so just
// till one of its cells is written with another value.
func wantAsTold(t *testing.T, p []State, b book) {
	t.Helper()
	from, to := b.versions[0], b.versions[len(b.versions)-1]+1
	if !Right(p) || len(p) != len(b.versions) {
		t.Fatalf("of %v: %v", b, p)
	}
	wantNoAt(t, p, from-1, api.ErrNone)
	for version := from; version <= to; version++ {
		h, e := At(p, version)
		if e != api.OK || len(h) != len(b.first) {
			t.Fatalf("At of %v, %d: %v, %d", p, version, h, e)
		}
		for cell, c := range h {
			if c.Live != b.first[cell].Live || c.Value != b.value(cell, version) {
				t.Fatalf("At of %v, %d: %v", p, version, h)
			}
		}
		for _, l := range all(h) {
			wantTillBroken(t, p, b, version, to, l)
		}
	}
}

// wantTillBroken is of reads that hold as of a version.
func wantTillBroken(t *testing.T, p []State, b book, version, to int, l []api.Read) {
	t.Helper()
	till, broken := b.broken(version, l)
	for later := version; later <= to && !(broken && later >= till); later++ {
		if !Holds(p, later, l) {
			t.Fatalf("Holds of %v, %d and %v, that held as of %d: false", p, later, l, version)
		}
	}
	if broken && Holds(p, till, l) {
		t.Fatalf("Holds of %v, %d and %v, that held as of %d: true", p, till, l, version)
	}
	var versions []int
	for _, s := range p {
		if Holds(p, s.Version, l) {
			versions = append(versions, s.Version)
		}
	}
	if got := Span(p, l); !slices.Equal(got, versions) {
		t.Fatalf("Span of %v and %v: %v, want %v", p, l, got, versions)
	}
}

// grow goes through every run of so many Nexts from a small set.
func grow(t *testing.T, p []State, b book, size, more int) {
	t.Helper()
	wantAsTold(t, p, b)
	if more == 0 {
		return
	}
	lists := [][]api.Write{nil, writes(put(0, 1), put(0, 0)), writes(put(size-1, 1), put(0, 2))}
	for cell := range size {
		lists = append(lists, writes(put(cell, 0)), writes(put(cell, 1)))
	}
	for n, l := range lists {
		version := b.versions[len(b.versions)-1] + 1 + n%2
		next, e := Next(p, version, l...)
		if e != api.OK {
			t.Fatalf("Next of %v, %d and %v: %d", p, version, l, e)
		}
		grow(t, next, b.next(version, l), size, more-1)
	}
}

// P13.3: what holds as of a version holds till one of its cells is written with
// another value, and no longer; a cell that is written with what it has, or with
// something else and with that again at once, is as it was.
func TestWhatHoldsAsOfAVersion(t *testing.T) {
	for size := 1; size <= 3; size++ {
		h := make([]api.Cell, size)
		for cell := range h {
			h[cell] = live(0)
		}
		p, e := Begin(size-1, h)
		if e != api.OK {
			t.Fatalf("Begin: %d", e)
		}
		grow(t, p, book{first: h, versions: []int{size - 1}}, size, 4)
	}
}

// P13.1 to P13.3: longer pasts, of more cells, some of which are not live; what can't
// be written changes nothing.
func TestLongerPasts(t *testing.T) {
	pick := picks(13)
	refused := 0
	for range 60 {
		h := make([]api.Cell, 1+pick.below(8))
		for cell := range h {
			if pick.below(5) > 0 {
				h[cell] = live(pick.below(3))
			}
		}
		version := pick.below(4)
		p, e := Begin(version, h)
		if e != api.OK {
			t.Fatalf("Begin of %d and %v: %d", version, h, e)
		}
		b := book{first: h, versions: []int{version}}
		for range 1 + pick.below(20) {
			version, want := lastOf(p).Version+pick.below(6), api.OK
			var l []api.Write
			for range pick.below(4) {
				w := put(pick.below(len(h)+1), pick.below(3))
				l = append(l, w)
				if w.Cell == len(h) || !h[w.Cell].Live {
					want = api.ErrNone
				}
			}
			if version == lastOf(p).Version {
				want = api.ErrArg
			}
			if want != api.OK {
				wantNoNext(t, p, version, l, want)
				refused++
				continue
			}
			p, e = Next(p, version, l...)
			if e != api.OK {
				t.Fatalf("Next of %v, %d and %v: %d", p, version, l, e)
			}
			b = b.next(version, l)
		}
		wantAsTold(t, p, b)
	}
	if refused < 100 {
		t.Errorf("%d were refused", refused)
	}
}

// P13.3: of whatever else was done at the same version, and behind it.
func TestWhatHoldsOfMany(t *testing.T) {
	p, _ := Begin(0, long(64))
	l := readsOf(read(63, 0, 163), read(0, 0, 100), read(20, 0, 120))
	for n := 1; n <= 500; n++ {
		var e api.Errno
		p, e = Next(p, 3*n, put(1+n%19, n), put(21+n%42, -n), put(20, n), put(20, 120))
		if e != api.OK {
			t.Fatalf("Next: %d", e)
		}
	}
	for _, cell := range []int{0, 20, 63} {
		q, e := Next(p, end, put(5, 5), put(cell, 0), put(6, 6))
		if e != api.OK {
			t.Fatalf("Next: %d", e)
		}
		for version := 0; version < 1600; version++ {
			if !Holds(q, version, l) {
				t.Fatalf("Holds as of %d: false", version)
			}
		}
		if !Holds(q, end-1, l) || Holds(q, end, l) || len(Span(q, l)) != 501 || len(Span(p, l)) != 501 {
			t.Errorf("with another value in %d at the last version: %v, %v, %d, %d", cell, Holds(q, end-1, l), Holds(q, end, l), len(Span(q, l)), len(Span(p, l)))
		}
	}
}

// spoil writes into all that a past has, behind the ends of its lists too.
func spoil(p []State) {
	for _, s := range p {
		spoilHeap(s.Heap)
	}
	p = p[:cap(p)]
	for place := range p {
		spoilHeap(p[place].Heap)
		p[place] = state(-1234, live(-1234))
	}
}

func spoilHeap(h []api.Cell) {
	h = h[:cap(h)]
	for cell := range h {
		h[cell] = live(-1234)
	}
}

// roomy has more memory behind the end of each list, with something in it.
func roomy(p []State) []State {
	q := make([]State, 0, len(p)+3)
	for _, s := range p {
		h := append(make([]api.Cell, 0, len(s.Heap)+3), s.Heap...)
		copy(h[len(h):cap(h)], cells(live(71), live(72), live(73)))
		q = append(q, State{Version: s.Version, Heap: h})
	}
	copy(q[len(q):cap(q)], past(state(81, live(1)), state(82, live(2)), state(83, live(3))))
	return q
}

func sameRoomy(p []State, was []State) bool {
	want := roomy(was)
	for place, s := range p {
		w := want[place]
		if cap(s.Heap) != cap(w.Heap) || !slices.Equal(s.Heap[:cap(s.Heap)], w.Heap[:cap(w.Heap)]) {
			return false
		}
	}
	return len(p) == len(was) && samePast(p[:cap(p)], want[:cap(want)])
}

// someNexts are what Next is asked of a past: with and without an error.
func someNexts(p []State) []State {
	last := 0
	if len(p) > 0 {
		last = lastOf(p).Version
	}
	return past(State{Version: -1}, State{Version: last}, state(last+1), state(last+1, live(0)), state(end, live(0), live(0)))
}

// R1: what Next is handed stays as it was, those behind the ends of the lists too, and
// the answer is memory of its own, beside an error as well: neither side is written
// through it.
func TestNextKeepsNothing(t *testing.T) {
	for _, was := range append(rightPasts(), wrongPasts()...) {
		for _, ask := range someNexts(was) {
			var l []api.Write
			for cell, c := range ask.Heap {
				l = append(l, put(cell, c.Value))
			}
			given, wasL := roomy(was), slices.Clone(l)
			answer, e := Next(given, ask.Version, l...)
			told := pastCopy(answer)
			spoil(append(answer, State{}))
			spoil(answer)
			if !sameRoomy(given, was) || !slices.Equal(l, wasL) {
				t.Fatalf("Next changed %v into %v", brief(was), brief(given))
			}
			answer, again := Next(given, ask.Version, l...)
			spoil(given)
			for i := range l {
				l[i] = put(-1234, -1234)
			}
			if !samePast(answer, told) || again != e {
				t.Fatalf("Next of %v kept what it was handed: %v, %d, and %v, %d", brief(was), brief(told), e, brief(answer), again)
			}
		}
	}
}

// R1: what is written into one heap that is answered, is in no other one; even if those
// that were handed in shared theirs.
func TestNoTwoHeapsShare(t *testing.T) {
	shared := cells(live(1), live(2), dead)
	p := past(State{Version: 1, Heap: shared}, State{Version: 4, Heap: shared}, State{Version: 6, Heap: shared})
	for _, version := range []int{7, 6} {
		for _, l := range [][]api.Write{nil, writes(put(1, 2)), writes(put(0, 9))} {
			told, _ := Next(p, version, l...)
			for place := range told {
				answer, _ := Next(p, version, l...)
				spoilHeap(answer[place].Heap)
				if !samePast(slices.Delete(answer, place, place+1), slices.Delete(pastCopy(told), place, place+1)) {
					t.Errorf("Next of %v, %d and %v: what is written into the heap %d is in others: %v", p, version, l, place, answer)
				}
			}
		}
	}
	if !slices.Equal(shared, cells(live(1), live(2), dead)) {
		t.Errorf("the heap has become %v", shared)
	}
}

// R1: so do the heap that Begin is handed, and what At answers.
func TestBeginAndAtKeepNothing(t *testing.T) {
	for _, h := range append(rightHeaps(), wrongHeaps()...) {
		for _, version := range []int{7, -1} {
			given := roomy(past(state(version, h...)))
			answer, e := Begin(version, given[0].Heap)
			spoil(answer)
			if !sameRoomy(given, past(state(version, h...))) {
				t.Fatalf("Begin changed a heap of %d cells", len(h))
			}
			answer, _ = Begin(version, given[0].Heap)
			spoil(given)
			if e == api.OK && !samePast(answer, past(state(version, h...))) {
				t.Fatalf("Begin kept a heap of %d cells", len(h))
			}
		}
	}
	for _, was := range rightPasts() {
		for _, s := range was {
			given := roomy(was)
			h, _ := At(given, s.Version)
			spoilHeap(h)
			if !sameRoomy(given, was) {
				t.Fatalf("At of %v, %d: the past shares the answer", brief(was), s.Version)
			}
			h, _ = At(given, s.Version)
			spoil(given)
			if !slices.Equal(h, s.Heap) {
				t.Fatalf("At of %v, %d kept what it was handed", brief(was), s.Version)
			}
			if len(was) > 60 && s.Version > 40 {
				break
			}
		}
	}
}

// R1, R4: those that answer no heap change nothing, and tell the same again.
func TestLookingChangesNothing(t *testing.T) {
	sets := append(wrongReads(), nil, readsOf(read(0, 3, 1)), readsOf(read(3, 0, -7), read(1, 0, 2)))
	for _, was := range append(rightPasts(), wrongPasts()...) {
		given := roomy(was)
		for _, l := range sets {
			wasL := slices.Clone(l)
			right, first := Right(given), Span(given, l)
			told := slices.Clone(first)
			for i := range first[:cap(first)] {
				first[:cap(first)][i] = -1234
			}
			if again := Span(given, l); !slices.Equal(again, told) || Right(given) != right {
				t.Fatalf("Span of %v and %v: %v, and then %v", brief(was), l, told, again)
			}
			for _, version := range []int{-1, 0, 4, 9, end} {
				if holds := Holds(given, version, l); Holds(given, version, l) != holds {
					t.Fatalf("Holds of %v, %d and %v: %v, and then not", brief(was), version, l, holds)
				}
			}
			if !slices.Equal(l, wasL) {
				t.Fatalf("%v became %v", wasL, l)
			}
		}
		if !sameRoomy(given, was) {
			t.Fatalf("%v became %v", brief(was), brief(given))
		}
	}
}

// P1, R3: at arguments that are picked from all sorts none of the calls panics, what
// is no past has no answer, and what is refused is as it was.
func TestAnyArguments(t *testing.T) {
	pick := picks(31)
	numbers := []int{0, 0, 1, 1, 2, 3, 4, 5, -1, end, end + 1, least, least - 1, turn, math.MinInt, math.MaxInt}
	number := func() int { return numbers[pick.below(len(numbers))] }
	pasts, nexts := 0, 0
	for range 100000 {
		var p []State
		size := pick.below(3)
		for place := range pick.below(5) {
			s := State{Version: place * (1 + pick.below(2))}
			if pick.below(6) == 0 {
				s.Version = number()
			}
			for range size + pick.below(8)/7 {
				s.Heap = append(s.Heap, live(pick.below(2)))
				if pick.below(16) == 0 {
					s.Heap[len(s.Heap)-1] = api.Cell{Live: pick.below(2) == 0, Value: number()}
				}
			}
			p = append(p, s)
		}
		var l []api.Write
		var r []api.Read
		for range pick.below(3) {
			l, r = append(l, put(number(), number())), append(r, read(number(), number(), number()))
		}
		version := number()
		was, right := pastCopy(p), isPast(p)
		got, e := Next(p, version, l...)
		h, none := At(p, version)
		holds, span := Holds(p, version, r), Span(p, r)
		if !samePast(p, was) || Right(p) != right {
			t.Fatalf("%v became %v", was, p)
		}
		if e != api.OK && !samePast(got, was) || e == api.OK && (!right || !isPast(got) || len(got) != len(p)+1) {
			t.Fatalf("Next of %v, %d and %v: %v, %d", p, version, l, got, e)
		}
		if (none == api.ErrArg) == right || none != api.OK && (len(h) > 0 || holds) || !right && len(span) > 0 {
			t.Fatalf("of %v, %d and %v: %v, %d, %v, %v", p, version, r, h, none, holds, span)
		}
		if right {
			pasts++
		}
		if e == api.OK {
			nexts++
		}
	}
	if pasts < 10000 || nexts < 2000 {
		t.Errorf("%d pasts, %d nexts", pasts, nexts)
	}
}
