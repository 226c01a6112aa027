package sleep

import (
	"math"
	"slices"
	"testing"

	"handshaker/api"
	"handshaker/term"
)

// picks tell numbers below a bound, always the same ones.
type picks uint64

func (p *picks) below(n int) int {
	*p = *p*6364136223846793005 + 1442695040888963407
	return int(uint64(*p)>>33) % n
}

// isSleeper is what is asked of one alone, by the chapter's words taken one by one,
// without a call of another layer.
func isSleeper(s Sleeper) bool {
	right := 1 <= s.Who && s.Who <= 8 && 1 <= s.Mode && s.Mode <= 3
	right = right && 0 <= s.Until && s.Until <= 1<<31-1
	right = right && len(s.Watch) <= 24
	for place, w := range s.Watch {
		right = right && 0 <= w.Cell && w.Cell <= 63 && -1<<31 <= w.Value && w.Value <= 1<<31-1
		for _, ahead := range s.Watch[:place] {
			right = right && ahead.Cell < w.Cell
		}
	}
	if s.Mode != 3 {
		return right && len(s.Term) == 0
	}
	return right && standsWell(s.Term) && namesJust(s.Term, s.Watch)
}

// standsWell is layer 7's, but that no register may be named.
func standsWell(t []term.Op) bool {
	pile, right := 0, 1 <= len(t) && len(t) <= 12
	for _, o := range t {
		switch {
		case o.Kind == 1:
			right = right && -1<<31 <= o.N && o.N <= 1<<31-1
			pile++
		case o.Kind == 2:
			right = right && 0 <= o.N && o.N <= 63
			pile++
		case 4 <= o.Kind && o.Kind <= 10:
			right = right && o.N == 0 && pile >= 2
			pile--
		default:
			right = right && o.Kind == 11 && o.N == 0 && pile >= 1
		}
	}
	return right && pile == 1
}

// namesJust asks whether a cell is named if it is watched, and watched if it is named.
func namesJust(t []term.Op, w []api.Write) bool {
	named, watched := map[int]int{}, map[int]int{}
	for _, o := range t {
		if o.Kind == 2 {
			named[o.N] = 1
		}
	}
	for _, one := range w {
		watched[one.Cell] = 1
	}
	right := len(named) == len(watched)
	for n := range named {
		right = right && watched[n] == 1
	}
	return right
}

// P15.1: every sleeper of a few numbers, watches, and terms.
func TestRightOfEachSmallSleeper(t *testing.T) {
	watches := [][]api.Write{nil, many(24), many(32)[:25]}
	numbers := []api.Write{put(-1, 0), put(0, 0), put(1, greatest+1), put(1, greatest), put(2, least), put(63, least-1), put(63, 0), put(64, 0)}
	for _, first := range numbers {
		watches = append(watches, watch(first))
		for _, second := range numbers {
			watches = append(watches, watch(first, second))
			watches = append(watches, watch(first, second, put(2, 0)))
		}
	}
	count, whole := 0, 0
	for _, o := range smallTerms() {
		for _, w := range watches {
			for mode := -1; mode <= 4; mode++ {
				whole++
				count += wantAsTold(t, Sleeper{Who: 1 + whole%8, Mode: mode, Until: whole, Watch: w, Term: o})
			}
		}
	}
	for _, w := range watches {
		for who := -1; who <= 10; who++ {
			for _, time := range []int{-1, 0, end, end + 1} {
				for mode := range 5 {
					count += wantAsTold(t, Sleeper{Who: who, Mode: mode, Until: time, Watch: w})
				}
			}
		}
	}
	if count < 400 || count > whole/10 {
		t.Errorf("%d of %d are right", count, whole)
	}
}

// smallTerms are all of up to three of some operations.
func smallTerms() [][]term.Op {
	all := [][]term.Op{nil}
	kinds := ops(num(1), cell(0), cell(2), cell(63), cell(64), reg(0), op(term.Plus), op(term.Either), op(term.Not), op(12))
	for _, first := range kinds {
		all = append(all, ops(first))
		for _, second := range kinds {
			all = append(all, ops(first, second))
			for _, third := range kinds {
				all = append(all, ops(first, second, third))
			}
		}
	}
	return all
}

// wantAsTold is 1, if there is such a sleeper.
func wantAsTold(t *testing.T, s Sleeper) int {
	t.Helper()
	want, count := api.ErrArg, 0
	if isSleeper(s) {
		want, count = api.OK, 1
	}
	if got := Right(list(s)); got != (want == api.OK) {
		t.Fatalf("Right of %v: %v", s, got)
	}
	if _, e := Add(nil, s); e != want {
		t.Fatalf("Add of %v: %d", s, e)
	}
	return count
}

// sleeper is any one, that is right more often than not.
func (p *picks) sleeper() Sleeper {
	s := Sleeper{Who: 1 + p.below(8), Mode: 1 + p.below(3), Until: p.below(3) * p.below(end)}
	if s.Mode == Holds {
		s = until(s.Until, holds(s.Who, p.term()...))
	} else {
		s.Watch = p.watch()
	}
	switch p.below(40) {
	case 0:
		s.Who = []int{0, 9, -1}[p.below(3)]
	case 1:
		s.Mode = p.below(5)
	case 2:
		s.Until = []int{-1, end + 1, end}[p.below(3)]
	case 3:
		s.Watch = append(s.Watch, put(p.below(66)-1, 3))
	case 4:
		s.Term = append(s.Term, []term.Op{num(4), op(term.Not), op(term.Plus), reg(1), cell(3)}[p.below(5)])
	case 5:
		s.Watch = s.Watch[:p.below(len(s.Watch)+1)]
	}
	return s
}

func (p *picks) watch() []api.Write {
	var l []api.Write
	gap := 1 + p.below(30)
	for n := p.below(gap); n < 64 && len(l) < 24; n += 1 + p.below(gap) {
		l = append(l, put(n, p.below(9)-4))
	}
	return l
}

// term is one that stands well.
func (p *picks) term() []term.Op {
	t, pile := ops(cell(p.below(64))), 1
	for len(t)+pile < 1+p.below(12) {
		switch {
		case p.below(4) == 0:
			t = append(t, op(term.Not))
		case pile == 1 || p.below(2) == 0:
			t, pile = append(t, []term.Op{num(p.below(5)), cell(p.below(64))}[p.below(2)]), pile+1
		default:
			t, pile = append(t, op(4+p.below(7))), pile-1
		}
	}
	for ; pile > 1; pile-- {
		t = append(t, op(4+p.below(7)))
	}
	return t
}

// book is who sleeps, told by who is there.
type book map[int]Sleeper

func (b book) list() []Sleeper {
	var l []Sleeper
	for who := 1; who <= 8; who++ {
		if s, sleeps := b[who]; sleeps {
			l = append(l, s)
		}
	}
	return l
}

func (b book) add(s Sleeper) api.Errno {
	if !isSleeper(s) {
		return api.ErrArg
	}
	if _, sleeps := b[s.Who]; sleeps {
		return api.ErrWait
	}
	b[s.Who] = s
	return api.OK
}

func (b book) drop(l []int) api.Errno {
	for place, who := range l {
		if _, sleeps := b[who]; !sleeps || slices.Contains(l[:place], who) {
			return api.ErrNone
		}
	}
	for _, who := range l {
		delete(b, who)
	}
	return api.OK
}

func (b book) of(cells []int) []int {
	var whos []int
	for who := 1; who <= 8; who++ {
		watched := false
		for _, w := range b[who].Watch {
			for _, n := range cells {
				watched = watched || w.Cell == n
			}
		}
		if watched {
			whos = append(whos, who)
		}
	}
	return whos
}

// P15.1, P15.2, P15.3: long runs of Add and Drop beside a book of who sleeps, in which
// each is looked for, and each few cells are.
func TestLongRuns(t *testing.T) {
	met := map[string]int{}
	for seed := range 300 {
		p, b := picks(seed), book{}
		var l []Sleeper
		for range 80 {
			var e api.Errno
			was, wantE := l, api.OK
			if p.below(8) < 5 {
				s := p.sleeper()
				l, e = Add(was, s)
				wantE = b.add(s)
				met["add"+string(rune('0'+wantE))]++
			} else {
				var who []int
				for range p.below(4) {
					who = append(who, 1+p.below(8)+p.below(20)/19)
				}
				l, e = Drop(was, who...)
				wantE = b.drop(who)
				met["drop"+string(rune('0'+wantE))]++
			}
			if e != wantE || !sameList(l, b.list()) || !Right(l) {
				t.Fatalf("behind %v: %v, %d and not %v, %d", was, l, e, b.list(), wantE)
			}
			wantBook(t, l, b, &p)
		}
	}
	for _, kind := range []string{"add0", "add1", "add9", "drop0", "drop3"} {
		if met[kind] < 300 {
			t.Errorf("%s came %d times", kind, met[kind])
		}
	}
}

// wantBook asks who sleeps, and by some cells, and that nobody sleeps twice.
func wantBook(t *testing.T, l []Sleeper, b book, p *picks) {
	t.Helper()
	for who := 0; who <= 9; who++ {
		s, sleeps := b[who]
		wantE := api.ErrNone
		if sleeps {
			wantE = api.OK
			if again, e := Add(l, s); e != api.ErrWait || !sameList(again, l) {
				t.Fatalf("%v was added again to %v: %v, %d", s, l, again, e)
			}
		}
		wantFound(t, l, who, s, wantE)
	}
	var cells []int
	for range p.below(5) {
		cells = append(cells, p.below(67)-1)
	}
	if of := Of(l, cells...); !slices.Equal(of, b.of(cells)) {
		t.Fatalf("Of %v among %v: %v and not %v", cells, l, of, b.of(cells))
	}
}

// P15.1, P15.3: those who are added in each order are the same list.
func TestEachOrderOfAdds(t *testing.T) {
	all := everybody()
	var each func(l []Sleeper, left []int)
	count := 0
	each = func(l []Sleeper, left []int) {
		if len(left) == 0 {
			count++
			if !sameList(l, all) {
				t.Fatalf("%v and not %v", l, all)
			}
		}
		for place, n := range left {
			next, e := Add(l, all[n])
			if e != api.OK {
				t.Fatalf("Add of %v to %v: %d", all[n], l, e)
			}
			each(next, slices.Delete(slices.Clone(left), place, place+1))
		}
	}
	each(nil, []int{7, 2, 5, 0, 3, 1, 6, 4})
	if count != 40320 {
		t.Errorf("%d orders", count)
	}
}

// P15.2: each read set of up to four reads, in each order, beside what it has.
func TestWatchedOfEachSmallSet(t *testing.T) {
	numbers := []int{0, 1, 5, 63, 64, math.MaxInt}
	var each func(l []api.Read)
	each = func(l []api.Read) {
		var want []api.Write
		for _, n := range numbers {
			for _, r := range l {
				if r.Cell == n {
					want = append(want, put(n, r.Value))
				}
			}
		}
		if len(want) > len(numbers) || twice(l) {
			want = nil
		}
		if w := Watched(l); !slices.Equal(w, want) {
			t.Fatalf("Watched of %v: %v and not %v", l, w, want)
		}
		if len(l) < 4 {
			for _, n := range numbers {
				each(append(slices.Clone(l), read(n, len(l), 10*len(l)-5)))
			}
		}
	}
	each(nil)
}

func twice(l []api.Read) bool {
	for place, r := range l {
		for _, ahead := range l[:place] {
			if ahead.Cell == r.Cell {
				return true
			}
		}
	}
	return false
}

// P15.1, P15.2: what Watched tells of reads of 0 to 63 may be watched.
func TestWatchedMayBeWatched(t *testing.T) {
	p := picks(7)
	for range 2000 {
		var l []api.Read
		for range p.below(25) {
			r := read(p.below(64), p.below(end), p.below(greatest)-p.below(greatest))
			if !twice(append(slices.Clone(l), r)) {
				l = append(l, r)
			}
		}
		w := Watched(l)
		sleeps, e := Add(nil, otherOf(3, w...))
		if e != api.OK || len(w) != len(l) {
			t.Fatalf("of %v: %v, %d", l, w, e)
		}
		for _, r := range l {
			if !slices.Contains(w, put(r.Cell, r.Value)) || !slices.Equal(Of(sleeps, r.Cell), []int{3}) {
				t.Fatalf("of %v: %v without %v", l, w, r)
			}
		}
	}
}
