package sleep

import (
	"math"
	"slices"
	"testing"

	"handshaker/api"
	"handshaker/term"
)

const (
	end      = api.MaxClock
	least    = -api.MaxValue - 1
	greatest = api.MaxValue
	turn     = 1 << 32
)

func put(cell, value int) api.Write      { return api.Write{Cell: cell, Value: value} }
func watch(l ...api.Write) []api.Write   { return l }
func ops(t ...term.Op) []term.Op         { return t }
func num(n int) term.Op                  { return term.Op{Kind: term.Const, N: n} }
func cell(n int) term.Op                 { return term.Op{Kind: term.Cell, N: n} }
func reg(n int) term.Op                  { return term.Op{Kind: term.Reg, N: n} }
func op(kind int) term.Op                { return term.Op{Kind: kind} }
func list(l ...Sleeper) []Sleeper        { return l }
func numbers(l ...int) []int             { return l }
func readsOf(l ...api.Read) []api.Read   { return l }
func read(cell, version, n int) api.Read { return api.Read{Cell: cell, Version: version, Value: n} }

func anyOf(who int, w ...api.Write) Sleeper   { return Sleeper{Who: who, Mode: Any, Watch: w} }
func otherOf(who int, w ...api.Write) Sleeper { return Sleeper{Who: who, Mode: Other, Watch: w} }

// holds watches just what its term names, each cell with its number and 100 as its value.
func holds(who int, t ...term.Op) Sleeper {
	s := Sleeper{Who: who, Mode: Holds, Term: t}
	for n := range 64 {
		if slices.Contains(t, cell(n)) {
			s.Watch = append(s.Watch, put(n, 100+n))
		}
	}
	return s
}

func until(time int, s Sleeper) Sleeper { s.Until = time; return s }
func as(who int, s Sleeper) Sleeper     { s.Who = who; return s }

func sameSleeper(s, other Sleeper) bool {
	return s.Who == other.Who && s.Mode == other.Mode && s.Until == other.Until && slices.Equal(s.Watch, other.Watch) && slices.Equal(s.Term, other.Term)
}

func sameList(l, other []Sleeper) bool { return slices.EqualFunc(l, other, sameSleeper) }

// many are n watched cells, that are as far from one another as there is room for.
func many(n int) []api.Write {
	var l []api.Write
	for place := range n {
		l = append(l, put(place*64/n, place-5))
	}
	return l
}

// sum is a term of 11 operations that names these six cells.
func sum(a, b, c, d, e, f int) []term.Op {
	return ops(cell(a), cell(b), op(term.Plus), cell(c), op(term.Plus), cell(d), op(term.Plus), cell(e), op(term.Plus), cell(f), op(term.Plus))
}

// everybody are eight of all modes, who watch some of the same cells, and who all may
// sleep at once; 4 and 7 watch nothing.
func everybody() []Sleeper {
	return list(
		anyOf(1, put(0, 5), put(3, -7), put(63, greatest)),
		until(9, otherOf(2, put(3, least), put(9, 0))),
		until(end, holds(3, cell(9), cell(3), op(term.Below))),
		anyOf(4),
		until(1, otherOf(5, many(24)...)),
		holds(6, sum(20, 0, 63, 7, 0, 41)...),
		holds(7, num(1)),
		until(4, anyOf(8, put(63, 1))),
	)
}

// some are those of everybody whose bit is set, of 1 the lowest one.
func some(set int) []Sleeper {
	var l []Sleeper
	for place, s := range everybody() {
		if set&(1<<place) != 0 {
			l = append(l, s)
		}
	}
	return l
}

func rightTimes() []int { return []int{0, 1, 2, 7, 1 << 16, end - 1, end} }

// wrongTimes are none; some of them come back to one if they are cut to fewer bits.
func wrongTimes() []int {
	return []int{-1, -2, -end, -end - 1, -end - 2, end + 1, end + 2, turn - 1, turn, turn + 7, -turn, -turn + 7, math.MinInt, math.MinInt + 7, math.MaxInt}
}

func wrongWhos() []int {
	return []int{0, -1, -2, -8, 9, 10, 16, 64, 257, turn, turn + 1, -turn + 8, math.MinInt, math.MinInt + 1, math.MaxInt}
}

func wrongModes() []int {
	return []int{0, -1, -2, -3, 4, 5, 257, turn + 1, turn + 2, turn + 3, -turn + 1, math.MinInt, math.MinInt + 3, math.MaxInt}
}

func rightWatches() [][]api.Write {
	all := [][]api.Write{
		nil, {}, watch(put(0, 0)), watch(put(63, 0)), watch(put(0, 1), put(63, 2)), watch(put(62, -1), put(63, -1)), watch(put(0, 0), put(1, 0), put(2, 0)),
		watch(put(5, least)), watch(put(5, greatest)), watch(put(5, least+1), put(6, greatest-1)), watch(put(5, 9), put(6, 8), put(7, 7)),
	}
	for n := range 25 {
		all = append(all, many(n))
	}
	var low, high []api.Write
	for n := range 24 {
		low, high = append(low, put(n, n)), append(high, put(40+n, -n))
	}
	return append(all, low, high)
}

// wrongWatches may none be, each for one thing.
func wrongWatches() [][]api.Write {
	long := many(32)
	all := [][]api.Write{
		long[:25], long[:26], long, many(64), make([]api.Write, 25), make([]api.Write, 1<<16+1),
		watch(put(2, 0), put(1, 0)), watch(put(1, 0), put(0, 0)), watch(put(63, 0), put(0, 0)), watch(put(0, 0), put(2, 0), put(1, 0)), watch(put(1, 0), put(0, 0), put(2, 0)),
		watch(put(2, 0), put(2, 0)), watch(put(0, 0), put(0, 0)), watch(put(63, 0), put(63, 0)), watch(put(2, 0), put(2, 1)), watch(put(1, 3), put(5, 4), put(5, 4)), watch(put(1, 3), put(1, 3), put(5, 4)), watch(put(1, 0), put(2, 0), put(1, 0)),
	}
	for _, n := range []int{-1, -2, -64, 64, 65, 128, turn, turn + 3, -turn, -turn + 3, math.MinInt, math.MinInt + 3, math.MaxInt} {
		all = append(all, watch(put(n, 0)), watch(put(n, 0), put(5, 0)), watch(put(5, 0), put(n, 0)), append(many(23), put(n, 0)))
	}
	for _, n := range []int{least - 1, least - 2, greatest + 1, greatest + 2, turn, turn + 1, -turn, math.MinInt, math.MaxInt} {
		all = append(all, watch(put(5, n)), watch(put(5, n), put(6, 1)), watch(put(5, 1), put(6, n)), append(many(24)[:23:23], put(63, n)))
	}
	for place := range 23 {
		turned := many(24)
		turned[place], turned[place+1] = turned[place+1], turned[place]
		twice := many(24)
		twice[place+1].Cell = twice[place].Cell
		all = append(all, turned, twice)
	}
	return all
}

// rightTerms stand well, and name no register.
func rightTerms() [][]term.Op {
	return [][]term.Op{
		ops(num(0)), ops(num(1)), ops(num(least)), ops(num(greatest)), ops(num(3), num(4), op(term.Plus)), ops(num(2), op(term.Not)),
		ops(cell(0)), ops(cell(63)), ops(cell(5), op(term.Not)), ops(cell(63), cell(0), op(term.Less)), ops(cell(7), cell(7), op(term.Times)),
		ops(cell(1), cell(2), cell(3), op(term.Both), op(term.Either)), ops(cell(9), num(4), op(term.Equal)), ops(num(4), cell(9), op(term.Below)),
		sum(0, 1, 2, 3, 4, 5), sum(63, 50, 40, 30, 20, 10), sum(8, 8, 8, 8, 8, 8), append(sum(3, 63, 3, 0, 63, 0), op(term.Not)),
	}
}

// wrongTerms are none of one who Holds: they don't stand well, or are of something that
// may not be, or name a register.
func wrongTerms() [][]term.Op {
	all := [][]term.Op{
		nil, {}, append(sum(0, 1, 2, 3, 4, 5), op(term.Not), op(term.Not)), make([]term.Op, 12), make([]term.Op, 1<<16+1),
		ops(op(term.Plus)), ops(op(term.Not)), ops(num(1), num(2)), ops(cell(1), cell(2)), ops(cell(1), op(term.Plus)), ops(cell(1), op(term.Plus), cell(2)), ops(op(term.Not), cell(1)), ops(cell(1), cell(2), cell(3), op(term.Plus)),
		ops(reg(0)), ops(reg(7)), ops(cell(1), reg(0), op(term.Plus)), ops(reg(3), cell(1), op(term.Plus)), ops(cell(1), cell(2), reg(7), op(term.Both), op(term.Both)), append(sum(0, 1, 2, 3, 4, 5)[:9:9], reg(0), op(term.Plus)),
		ops(cell(-1)), ops(cell(64)), ops(cell(turn + 1)), ops(cell(math.MinInt)), ops(cell(math.MaxInt)), ops(num(least - 1)), ops(num(greatest + 1)), ops(op(0)), ops(op(12)), ops(op(-1)), ops(reg(-1)), ops(reg(8)),
		ops(cell(1), term.Op{Kind: term.Not, N: 1}), ops(cell(1), cell(1), term.Op{Kind: term.Plus, N: -1}), ops(cell(1), op(12)), ops(cell(1), op(math.MaxInt)), ops(cell(1), op(math.MinInt)), ops(cell(1), op(turn+term.Not)),
	}
	return all
}

// rightSleepers are of each Who, Mode, and Until, and of each Watch and Term that may be.
func rightSleepers() []Sleeper {
	all := everybody()
	for who := 1; who <= 8; who++ {
		all = append(all, anyOf(who), otherOf(who), holds(who, num(0)), anyOf(who, put(3, 4)), otherOf(who, put(3, 4)), holds(who, cell(3)))
	}
	for _, time := range rightTimes() {
		all = append(all, until(time, anyOf(1)), until(time, otherOf(8, put(3, 4))), until(time, holds(4, cell(3))))
	}
	for _, w := range rightWatches() {
		all = append(all, anyOf(1, w...), otherOf(8, w...), Sleeper{Who: 2, Mode: Any, Watch: w, Term: ops()})
	}
	for _, t := range rightTerms() {
		all = append(all, holds(1, t...), until(end, holds(8, t...)))
	}
	least, greatest := holds(3, cell(5), cell(6), op(term.Both)), holds(3, cell(5), cell(6), op(term.Both))
	least.Watch, greatest.Watch = watch(put(5, -1<<31), put(6, 0)), watch(put(5, 0), put(6, 1<<31-1))
	return append(all, least, greatest)
}

// wrongSleepers are none, each for one thing.
func wrongSleepers() []Sleeper {
	all := list(Sleeper{}, Sleeper{Who: 1}, Sleeper{Mode: Any})
	usual := list(anyOf(3, put(3, 4), put(9, 0)), otherOf(3, put(3, 4)), holds(3, cell(3), cell(9), op(term.Both)), anyOf(3), otherOf(3), holds(3, num(1)))
	for _, s := range usual {
		for _, who := range wrongWhos() {
			all = append(all, as(who, s))
		}
		for _, time := range wrongTimes() {
			all = append(all, until(time, s))
		}
		for _, mode := range wrongModes() {
			other := s
			other.Mode = mode
			all = append(all, other)
		}
	}
	for _, w := range wrongWatches() {
		all = append(all, anyOf(3, w...), otherOf(3, w...))
	}
	return append(all, wrongOfTerms()...)
}

// wrongOfTerms are those who are none for their terms, or for a Watch that is not that
// of the term.
func wrongOfTerms() []Sleeper {
	var all []Sleeper
	for _, t := range wrongTerms() {
		s := holds(3, t...)
		all = append(all, s, Sleeper{Who: 3, Mode: Holds, Term: t})
		s.Watch = watch(put(1, 0))
		all = append(all, s)
	}
	for _, t := range rightTerms() {
		s := holds(3, t...)
		s.Mode = Any
		all = append(all, s)
		s.Mode = Other
		all = append(all, s, Sleeper{Who: 3, Mode: Any, Term: t}, Sleeper{Who: 3, Mode: Other, Term: t})
		all = append(all, wrongWatchesOf(holds(3, t...))...)
	}
	return all
}

// wrongWatchesOf are of a Watch that has one cell fewer, one more, another one, one
// twice, or two turned about.
func wrongWatchesOf(s Sleeper) []Sleeper {
	var all []Sleeper
	add := func(w []api.Write) {
		other := s
		other.Watch = w
		all = append(all, other)
	}
	for n := range 64 {
		w := put(n, 1)
		place, there := slices.BinarySearchFunc(s.Watch, w, func(a, b api.Write) int { return a.Cell - b.Cell })
		if there {
			add(slices.Delete(slices.Clone(s.Watch), place, place+1))
			add(slices.Insert(slices.Clone(s.Watch), place, s.Watch[place]))
			continue
		}
		add(slices.Insert(slices.Clone(s.Watch), place, w))
		if len(s.Watch) > 0 {
			other := slices.Clone(s.Watch)
			other[min(place, len(other)-1)] = w
			add(other)
		}
	}
	if len(s.Watch) > 1 {
		other := slices.Clone(s.Watch)
		slices.Reverse(other)
		add(other)
		add(nil)
	}
	add(append(slices.Clone(s.Watch), put(64, 0)))
	return append(all, wrongValuesOf(s)...)
}

func wrongValuesOf(s Sleeper) []Sleeper {
	var all []Sleeper
	for place := range s.Watch {
		for _, value := range []int{least - 1, greatest + 1, math.MinInt, math.MaxInt} {
			other := s
			other.Watch = slices.Clone(s.Watch)
			other.Watch[place].Value = value
			all = append(all, other)
		}
	}
	return all
}

// wrongLists are none: of a wrong one wherever it stands, out of order, and of one twice.
func wrongLists() [][]Sleeper {
	var all [][]Sleeper
	for _, s := range wrongSleepers() {
		all = append(all, list(s), list(anyOf(1), s, anyOf(8)), list(anyOf(1), anyOf(2), s), list(s, anyOf(4)))
	}
	for who := 1; who <= 8; who++ {
		all = append(all, list(anyOf(who), anyOf(who)), list(anyOf(who), otherOf(who, put(1, 2))))
	}
	for place := range 8 {
		none, twice := everybody(), everybody()
		none[place].Until = -1
		all = append(all, none, slices.Insert(twice, place, twice[place]))
		for other := range place {
			turned := everybody()
			turned[place], turned[other] = turned[other], turned[place]
			all = append(all, turned)
		}
	}
	back := everybody()
	slices.Reverse(back)
	return append(all, back, make([]Sleeper, 9), make([]Sleeper, 1<<16+1), append(everybody(), anyOf(9)), append(everybody(), anyOf(0)), append(list(anyOf(0)), everybody()...))
}

// brief keeps what is long out of the tests' messages.
func brief(l []Sleeper) []Sleeper {
	l = slices.Clone(l[:min(len(l), 9)])
	for place, s := range l {
		l[place].Watch = s.Watch[:min(len(s.Watch), 26)]
		l[place].Term = s.Term[:min(len(s.Term), 14)]
	}
	return l
}

// wantList asks for what a call answers that has a list and an error.
func wantList(t *testing.T, l, want []Sleeper, e, wantE api.Errno, told ...any) {
	t.Helper()
	if e != wantE || !sameList(l, want) {
		t.Errorf("%v: %v, %d and not %v, %d", told, brief(l), e, brief(want), wantE)
	}
}

// wantFound asks for what Find answers; with an error it is an empty one.
func wantFound(t *testing.T, l []Sleeper, who int, want Sleeper, wantE api.Errno) {
	t.Helper()
	s, e := Find(l, who)
	if e != wantE || !sameSleeper(s, want) {
		t.Errorf("Find of %d among %v: %v, %d and not %v, %d", who, brief(l), s, e, want, wantE)
	}
}

// The numbers of the modes are the chapter's.
func TestModes(t *testing.T) {
	if Any != 1 || Other != 2 || Holds != 3 {
		t.Errorf("%d, %d, %d", Any, Other, Holds)
	}
}

// P15.1
func TestRightOfOne(t *testing.T) {
	for _, s := range rightSleepers() {
		if !Right(list(s)) {
			t.Errorf("Right of %v: false", s)
		}
		l, e := Add(nil, s)
		wantList(t, l, list(s), e, api.OK, "Add", s)
	}
}

// P15.1: ErrArg, if s alone is none.
func TestRightOfNone(t *testing.T) {
	for _, s := range wrongSleepers() {
		if Right(list(s)) {
			t.Errorf("Right of %v: true", brief(list(s)))
		}
		for _, l := range [][]Sleeper{nil, {}, list(anyOf(1)), list(anyOf(8)), some(1<<2 ^ 0xff), everybody()} {
			got, e := Add(l, s)
			wantList(t, got, l, e, api.ErrArg, "Add", brief(list(s)))
		}
	}
}

// P15.1: those who sleep are each some of everybody, in order.
func TestRightOfEachSet(t *testing.T) {
	for set := range 256 {
		if !Right(some(set)) {
			t.Errorf("Right of %v: false", some(set))
		}
	}
	if !Right(nil) || !Right(list()) {
		t.Errorf("Right of nobody: false")
	}
}

// P15.1: of each two, and of each three, the Whos must rise.
func TestRightLooksAtEachWho(t *testing.T) {
	for first := -1; first <= 10; first++ {
		for second := -1; second <= 10; second++ {
			want := 1 <= first && first < second && second <= 8
			if got := Right(list(anyOf(first), otherOf(second))); got != want {
				t.Errorf("Right of %d, %d: %v", first, second, got)
			}
			for third := -1; third <= 10; third++ {
				want := 1 <= first && first < second && second < third && third <= 8
				if got := Right(list(anyOf(first), holds(second, cell(1)), otherOf(third))); got != want {
					t.Errorf("Right of %d, %d, %d: %v", first, second, third, got)
				}
			}
		}
	}
}

// P15.1: of what is none the others tell ErrArg, or nothing; ahead of all other errors.
func TestOfNoList(t *testing.T) {
	for _, l := range wrongLists() {
		if Right(l) {
			t.Errorf("Right of %v: true", brief(l))
		}
		for _, s := range list(anyOf(2), anyOf(5), holds(7, cell(3)), Sleeper{}) {
			got, e := Add(l, s)
			wantList(t, got, l, e, api.ErrArg, "Add of", s, "to", brief(l))
		}
		for _, who := range [][]int{nil, {1}, {3}, {9}, {1, 1}, {1, 2, 3}} {
			got, e := Drop(l, who...)
			wantList(t, got, l, e, api.ErrArg, "Drop of", who, "from", brief(l))
		}
		for who := -1; who <= 9; who++ {
			wantFound(t, l, who, Sleeper{}, api.ErrArg)
		}
		if of := Of(l, 0, 3, 5, 9, 63); len(of) != 0 {
			t.Errorf("Of %v: %v", brief(l), of)
		}
	}
}

// P15.1, P15.3: each who of everybody is added to each list of the others in its place,
// ahead of all, between two and behind all; and to none that has it, whatever else it is.
func TestAddToEachSet(t *testing.T) {
	for set := range 256 {
		for place, s := range everybody() {
			l, e := Add(some(set), s)
			if set&(1<<place) == 0 {
				wantList(t, l, some(set|1<<place), e, api.OK, "Add of", s.Who, "to", set)
				continue
			}
			wantList(t, l, some(set), e, api.ErrWait, "Add of", s.Who, "to", set)
			for _, other := range list(anyOf(s.Who), otherOf(s.Who, put(7, 7)), until(5, holds(s.Who, cell(7)))) {
				l, e = Add(some(set), other)
				wantList(t, l, some(set), e, api.ErrWait, "Add of", other, "to", set)
			}
		}
	}
}

// P15.1: one who is none is told of ahead of one who sleeps.
func TestAddOfWhoSleepsAndIsNone(t *testing.T) {
	for _, s := range list(Sleeper{Who: 3}, until(-1, anyOf(3)), anyOf(3, put(64, 0)), Sleeper{Who: 3, Mode: Holds}) {
		l, e := Add(everybody(), s)
		wantList(t, l, everybody(), e, api.ErrArg, "Add of", s)
	}
}

// P15.1: the chapter's example.
func TestAddTwice(t *testing.T) {
	l, e := Add(nil, anyOf(4, put(3, 1)))
	wantList(t, l, list(anyOf(4, put(3, 1))), e, api.OK, "Add")
	again, e := Add(l, anyOf(4, put(3, 1)))
	wantList(t, again, l, e, api.ErrWait, "Add again")
}

// P15.1: each set is dropped from each one, in its order and the other way round; of
// those who do not sleep nobody is dropped.
func TestDropOfEachSet(t *testing.T) {
	for set := range 256 {
		for gone := range 256 {
			var who []int
			for place := range 8 {
				if gone&(1<<place) != 0 {
					who = append(who, place+1)
				}
			}
			want, wantE := some(set&^gone), api.OK
			if gone&^set != 0 {
				want, wantE = some(set), api.ErrNone
			}
			l, e := Drop(some(set), who...)
			wantList(t, l, want, e, wantE, "Drop of", who, "from", set)
			slices.Reverse(who)
			l, e = Drop(some(set), who...)
			wantList(t, l, want, e, wantE, "Drop of", who, "from", set)
		}
	}
}

// P15.1: nobody is dropped, if one is named twice, or is no thread, wherever it stands.
func TestDropOfOneTwice(t *testing.T) {
	all := everybody()
	for who := 1; who <= 8; who++ {
		for _, l := range [][]int{{who, who}, {who, 9 - who, who}, {9 - who, who, who}, {who, who, 9 - who}, {1, 2, 3, 4, 5, 6, 7, 8, who}, {who, who, who, who, who, who, who, who}} {
			got, e := Drop(all, l...)
			wantList(t, got, all, e, api.ErrNone, "Drop of", l)
		}
		for _, wrong := range wrongWhos() {
			for _, l := range [][]int{{wrong}, {wrong, who}, {who, wrong}} {
				got, e := Drop(all, l...)
				wantList(t, got, all, e, api.ErrNone, "Drop of", l)
			}
		}
	}
	got, e := Drop(all, make([]int, 1<<16+1)...)
	wantList(t, got, all, e, api.ErrNone, "Drop of very many")
}

// P15.1
func TestDropOfNobody(t *testing.T) {
	for _, l := range [][]Sleeper{nil, {}, list(anyOf(3)), everybody()} {
		got, e := Drop(l)
		wantList(t, got, l, e, api.OK, "Drop of nobody from", l)
		got, e = Drop(l, numbers()...)
		wantList(t, got, l, e, api.OK, "Drop of nobody from", l)
	}
	got, e := Drop(nil, 1)
	wantList(t, got, nil, e, api.ErrNone, "Drop from nobody")
}

// P15.1
func TestFindInEachSet(t *testing.T) {
	for set := range 256 {
		for place, s := range everybody() {
			if set&(1<<place) == 0 {
				s = Sleeper{}
			}
			wantE := api.OK
			if s.Who == 0 {
				wantE = api.ErrNone
			}
			wantFound(t, some(set), place+1, s, wantE)
		}
		for _, who := range wrongWhos() {
			wantFound(t, some(set), who, Sleeper{}, api.ErrNone)
		}
	}
}

// P15.2
func TestOf(t *testing.T) {
	for _, c := range []struct{ cells, want []int }{
		{nil, nil}, {numbers(), nil}, {numbers(3), numbers(1, 2, 3)}, {numbers(9), numbers(2, 3)}, {numbers(9, 3), numbers(1, 2, 3)}, {numbers(63), numbers(1, 6, 8)}, {numbers(0), numbers(1, 5, 6)}, {numbers(63, 0), numbers(1, 5, 6, 8)},
		{numbers(41), numbers(6)}, {numbers(41, 41), numbers(6)}, {numbers(3, 9, 3, 9), numbers(1, 2, 3)}, {numbers(1), nil}, {numbers(62, 1, 4), nil}, {numbers(62, 41, 1), numbers(6)}, {numbers(-1), nil}, {numbers(64), nil}, {numbers(-1, 64, 9), numbers(2, 3)},
		{numbers(math.MinInt, math.MaxInt, turn, turn+3, -turn+3, 256+3, 64+3, -3), nil}, {numbers(61), numbers(5)}, {numbers(2), numbers(5)}, {numbers(0, 3, 9, 63), numbers(1, 2, 3, 5, 6, 8)},
	} {
		if of := Of(everybody(), c.cells...); !slices.Equal(of, c.want) {
			t.Errorf("Of %v: %v and not %v", c.cells, of, c.want)
		}
		if of := Of(nil, c.cells...); len(of) != 0 {
			t.Errorf("Of %v, of nobody: %v", c.cells, of)
		}
	}
}

// P15.2, P15.3: each two cells, of each list; 4 and 7 watch nothing, and are never told.
func TestOfEachTwoCells(t *testing.T) {
	for set := range 256 {
		l := some(set)
		for first := -1; first <= 64; first += 1 + set%3 {
			for second := -1; second <= 64; second += 1 + set%5 {
				var want []int
				for _, s := range l {
					if slices.ContainsFunc(s.Watch, func(w api.Write) bool { return w.Cell == first || w.Cell == second }) {
						want = append(want, s.Who)
					}
				}
				if of := Of(l, first, second); !slices.Equal(of, want) {
					t.Fatalf("Of %d, %d among %d: %v and not %v", first, second, set, of, want)
				}
			}
		}
	}
}

// P15.2, P15.3
func TestOfAllCells(t *testing.T) {
	var cells []int
	for n := -3; n <= 70; n++ {
		cells = append(cells, n)
	}
	if of := Of(everybody(), cells...); !slices.Equal(of, numbers(1, 2, 3, 5, 6, 8)) {
		t.Errorf("Of all cells: %v", of)
	}
	if of := Of(list(anyOf(1), otherOf(2), holds(3, num(1)), anyOf(8)), cells...); len(of) != 0 {
		t.Errorf("Of all cells, of those who watch nothing: %v", of)
	}
}

// P15.2: each of 24 cells is one that is watched.
func TestOfEachPlace(t *testing.T) {
	for n := range 25 {
		l := list(otherOf(7, many(n)...))
		for place := range n {
			if of := Of(l, place*64/n); !slices.Equal(of, numbers(7)) {
				t.Errorf("Of the cell %d of %v: %v", place, l, of)
			}
		}
	}
}

// P15.2
func TestWatched(t *testing.T) {
	var up, down []api.Read
	for n := range 24 {
		up = append(up, read(2*n, n, n-7))
	}
	for n := range 24 {
		down = append(down, up[23-n])
	}
	for _, c := range []struct {
		l    []api.Read
		want []api.Write
	}{
		{nil, nil}, {readsOf(), nil},
		{readsOf(read(7, 9, 1), read(3, 8, 2)), watch(put(3, 2), put(7, 1))},
		{readsOf(read(3, 8, 2), read(7, 9, 1)), watch(put(3, 2), put(7, 1))},
		{readsOf(read(0, 0, 0)), watch(put(0, 0))}, {readsOf(read(63, end, least)), watch(put(63, least))}, {readsOf(read(63, 1, greatest)), watch(put(63, greatest))},
		{readsOf(read(2, 1, 5), read(9, 1, 5), read(0, 3, 5)), watch(put(0, 5), put(2, 5), put(9, 5))},
		// A read set's cells have no end: how long the heap is, is not known there.
		{readsOf(read(64, 0, 1), read(math.MaxInt, 0, 2), read(turn, 0, 3), read(1, 0, 4)), watch(put(1, 4), put(64, 1), put(turn, 3), put(math.MaxInt, 2))},
	} {
		if w := Watched(c.l); !slices.Equal(w, c.want) {
			t.Errorf("Watched of %v: %v", c.l, w)
		}
	}
	for _, l := range [][]api.Read{up, down} {
		w := Watched(l)
		if len(w) != 24 || !Right(list(otherOf(1, w...))) {
			t.Errorf("Watched of %v: %v", l, w)
		}
		for n, one := range w {
			if one != put(2*n, n-7) {
				t.Errorf("Watched of %v: %v at %d", l, one, n)
			}
		}
	}
}

// P15.2: what is no read set tells nothing.
func TestWatchedOfNoReadSet(t *testing.T) {
	var long []api.Read
	for n := range 25 {
		long = append(long, read(n, 0, 0))
	}
	all := [][]api.Read{long, make([]api.Read, 1<<16+1), {read(3, 0, 1), read(3, 0, 1)}, {read(3, 0, 1), read(3, 0, 2)}, {read(3, 0, 1), read(4, 0, 1), read(3, 5, 1)}}
	for _, n := range []int{-1, -2, -turn, -turn + 3, math.MinInt} {
		all = append(all, readsOf(read(n, 0, 0)), readsOf(read(3, 0, 0), read(n, 0, 0)), readsOf(read(n, 0, 0), read(3, 0, 0)))
	}
	for _, n := range wrongTimes() {
		all = append(all, readsOf(read(3, n, 0)), readsOf(read(2, 0, 0), read(3, n, 0)), readsOf(read(3, n, 0), read(2, 0, 0)))
	}
	for _, n := range []int{least - 1, greatest + 1, turn, -turn, math.MinInt, math.MaxInt} {
		all = append(all, readsOf(read(3, 0, n)), readsOf(read(2, 0, 0), read(3, 0, n)), readsOf(read(3, 0, n), read(2, 0, 0)))
	}
	for _, l := range all {
		if w := Watched(l); len(w) != 0 {
			t.Errorf("Watched of %v: %v", l[:min(len(l), 25)], w)
		}
	}
}
