package tick

import (
	"math"
	"slices"
	"testing"

	"handshaker/api"
)

const (
	last = api.MaxClock
	turn = 1 << 32
)

func rightTimes() []int {
	return []int{0, 1, 2, 5, 255, 256, 1 << 16, 1 << 30, last - 2, last - 1, last}
}

// wrongTimes are those past both ends, such as come back to a right one if they
// are cut to fewer bits among them.
func wrongTimes() []int {
	return []int{
		-1, -2, -5, -256, -last, -last - 1, -last - 2, -turn, -turn + 1, math.MinInt, math.MinInt + 1,
		last + 1, last + 2, turn - 1, turn, turn + 1, turn + last, math.MaxInt - 1, math.MaxInt,
	}
}

// P4.1
func TestRight(t *testing.T) {
	for _, n := range rightTimes() {
		if !Right(n) {
			t.Errorf("Right(%d): false", n)
		}
	}
	for _, n := range wrongTimes() {
		if Right(n) {
			t.Errorf("Right(%d): true", n)
		}
	}
}

// P4.1: each power of 2, and what is beside it, of both signs.
func TestRightAtEachPower(t *testing.T) {
	for bit := range 63 {
		for _, n := range []int{1<<bit - 1, 1 << bit, 1<<bit + 1} {
			if got, want := Right(n), n <= 2147483647; got != want {
				t.Errorf("Right(%d): %v", n, got)
			}
			if got := Right(-n); got != (n == 0) {
				t.Errorf("Right(%d): %v", -n, got)
			}
		}
	}
}

// P4.1
func TestNext(t *testing.T) {
	for _, c := range []struct {
		version, want int
		fault         api.Errno
	}{
		{0, 1, api.OK},
		{1, 2, api.OK},
		{41, 42, api.OK},
		{255, 256, api.OK},
		{65535, 65536, api.OK},
		{last - 2, last - 1, api.OK},
		{last - 1, last, api.OK},
		{last, 0, api.ErrClock},
		{last + 1, 0, api.ErrArg},
		{-1, 0, api.ErrArg},
		{-2, 0, api.ErrArg},
	} {
		if got, e := Next(c.version); got != c.want || e != c.fault {
			t.Errorf("Next(%d): %d, %d, want %d, %d", c.version, got, e, c.want, c.fault)
		}
	}
	for _, version := range wrongTimes() {
		if got, e := Next(version); got != 0 || e != api.ErrArg {
			t.Errorf("Next(%d): %d, %d, want 0 and ErrArg", version, got, e)
		}
	}
}

// P4.1
func TestAfter(t *testing.T) {
	for _, c := range []struct {
		now, ticks, want int
		fault            api.Errno
	}{
		{0, 1, 1, api.OK},
		{5, 3, 8, api.OK},
		{3, 5, 8, api.OK},
		{0, last - 1, last - 1, api.OK},
		{0, last, last, api.OK},
		{0, last + 1, 0, api.ErrClock},
		{1, last - 1, last, api.OK},
		{1, last, 0, api.ErrClock},
		{1 << 30, 1<<30 - 1, last, api.OK},
		{1 << 30, 1 << 30, 0, api.ErrClock},
		{last - 1, 1, last, api.OK},
		{last - 1, 2, 0, api.ErrClock},
		{last, 1, 0, api.ErrClock},
		{last, last, 0, api.ErrClock},
		{0, math.MaxInt, 0, api.ErrClock},
		{1, math.MaxInt, 0, api.ErrClock},
		{last, math.MaxInt, 0, api.ErrClock},
		{last, math.MaxInt - last, 0, api.ErrClock},
		{last, math.MaxInt - last + 1, 0, api.ErrClock},
		{5, turn, 0, api.ErrClock},
		{5, turn + 1, 0, api.ErrClock},
		{0, 0, 0, api.ErrArg},
		{5, 0, 0, api.ErrArg},
		{last, 0, 0, api.ErrArg},
		{5, -1, 0, api.ErrArg},
		{5, -5, 0, api.ErrArg},
		{5, -6, 0, api.ErrArg},
		{last, -1, 0, api.ErrArg},
		{0, math.MinInt, 0, api.ErrArg},
		{last, math.MinInt, 0, api.ErrArg},
		{5, -turn + 1, 0, api.ErrArg},
	} {
		if got, e := After(c.now, c.ticks); got != c.want || e != c.fault {
			t.Errorf("After(%d, %d): %d, %d, want %d, %d", c.now, c.ticks, got, e, c.want, c.fault)
		}
	}
}

// P4.1: from each time on, as many ticks as are left, one fewer and one more.
func TestAfterAtTheEdge(t *testing.T) {
	for _, now := range rightTimes() {
		for ticks := last - now - 2; ticks <= last-now+2; ticks++ {
			want, fault := now+ticks, api.OK
			if ticks < 1 {
				want, fault = 0, api.ErrArg
			} else if want > last {
				want, fault = 0, api.ErrClock
			}
			if got, e := After(now, ticks); got != want || e != fault {
				t.Errorf("After(%d, %d): %d, %d, want %d, %d", now, ticks, got, e, want, fault)
			}
		}
	}
}

// P4.1: ErrArg comes ahead of ErrClock, and of times that would be right again.
func TestAfterOfNoTime(t *testing.T) {
	for _, now := range wrongTimes() {
		for _, ticks := range []int{1, 2, 6, 257, last, last + 1, turn, turn + 1, math.MaxInt, 0, -1, -2, -last, math.MinInt} {
			if got, e := After(now, ticks); got != 0 || e != api.ErrArg {
				t.Errorf("After(%d, %d): %d, %d, want 0 and ErrArg", now, ticks, got, e)
			}
		}
	}
	for _, now := range rightTimes() {
		for _, ticks := range append(wrongTimes()[:11:11], 0) {
			if got, e := After(now, ticks); got != 0 || e != api.ErrArg {
				t.Errorf("After(%d, %d): %d, %d, want 0 and ErrArg", now, ticks, got, e)
			}
		}
	}
}

// P4.1: so many ticks are so many versions, one behind the other.
func TestAfterIsNextSoOften(t *testing.T) {
	for _, from := range []int{0, 1, 250, last - 40} {
		version := from
		for ticks := 1; ticks <= 50; ticks++ {
			next, fault := Next(version)
			got, e := After(from, ticks)
			if got != next || e != fault {
				t.Fatalf("After(%d, %d): %d, %d, want %d, %d", from, ticks, got, e, next, fault)
			}
			if fault == api.OK && (next <= version || !Right(next)) {
				t.Fatalf("Next(%d): %d", version, next)
			}
			if fault == api.OK {
				version = next
			}
		}
	}
}

// P4.2
func TestDue(t *testing.T) {
	for _, c := range []struct {
		now         int
		times, want []int
	}{
		{5, []int{7, 5, 3}, []int{2, 1}}, // the chapter's example
		{5, nil, nil},
		{5, []int{}, nil},
		{0, []int{0}, []int{0}},
		{0, []int{1}, nil},
		{0, []int{1, 0, 2, 0}, []int{1, 3}},
		{5, []int{5}, []int{0}},
		{5, []int{6}, nil},
		{5, []int{4, 5, 6}, []int{0, 1}},
		{5, []int{6, 5, 4}, []int{2, 1}},
		{9, []int{1, 2, 3}, []int{0, 1, 2}},
		{9, []int{3, 2, 1}, []int{2, 1, 0}},
		{9, []int{3, 3, 3}, []int{0, 1, 2}},
		{9, []int{3, 1, 3, 1}, []int{1, 3, 0, 2}},
		{9, []int{1, 3, 1, 3}, []int{0, 2, 1, 3}},
		{9, []int{3, 9, 9, 3, 0, 10, 9}, []int{4, 0, 3, 1, 2, 6}},
		{9, []int{-1, 3}, []int{1}},
		{9, []int{3, -1, 2}, []int{2, 0}},
		{9, []int{math.MinInt, 0, -9}, []int{1}},
		{last - 1, []int{last, last - 1}, []int{1}},
		{last, []int{last, last - 1}, []int{1, 0}},
		{last, []int{last + 1, last, 0}, []int{2, 1}},
		{last + 1, []int{last + 1, last, 0}, []int{2, 1}},
		{math.MaxInt, []int{last + 1, last, turn, 0, math.MaxInt, -1}, []int{3, 1}},
		{math.MaxInt, []int{last + 1, turn, turn + 5}, nil},
		{turn, []int{5, 3}, []int{1, 0}},
		{turn + 4, []int{5, 3}, []int{1, 0}},
		{-1, []int{0, 1, 5}, nil},
		{-1, []int{-1, -2, 0}, nil},
		{-turn + 9, []int{5, 3}, nil},
		{math.MinInt, []int{math.MinInt, -1, 0, last}, nil},
	} {
		if got := Due(c.now, c.times...); !slices.Equal(got, c.want) {
			t.Errorf("Due(%d; %v): %v, want %v", c.now, c.times, got, c.want)
		}
	}
}

// P4.2
func TestFirst(t *testing.T) {
	for _, c := range []struct {
		times []int
		want  int
	}{
		{nil, -1},
		{[]int{}, -1},
		{[]int{0}, 0},
		{[]int{last}, 0},
		{[]int{1, 2, 3}, 0},
		{[]int{3, 2, 1}, 2},
		{[]int{2, 1, 3}, 1},
		{[]int{3, 3, 3}, 0},
		{[]int{8, 3, 3}, 1},
		{[]int{8, 3, 9, 3, 3}, 1},
		{[]int{3, 8, 3}, 0},
		{[]int{last, last - 1}, 1},
		{[]int{last, last}, 0},
		{[]int{7, 0, 0}, 1},
		{[]int{-1}, -1},
		{[]int{last + 1}, -1},
		{[]int{-1, last + 1, math.MinInt, math.MaxInt, turn, -turn + 5}, -1},
		{[]int{-5, 8, 3, 3}, 2},
		{[]int{-5, 8}, 1},
		{[]int{8, -5}, 0},
		{[]int{last + 1, last}, 1},
		{[]int{last, last + 1}, 0},
		{[]int{8, turn + 1, 7}, 2},
		{[]int{math.MinInt, 0, -1}, 1},
	} {
		if got := First(c.times...); got != c.want {
			t.Errorf("First(%v): %d, want %d", c.times, got, c.want)
		}
	}
}

// P4.2: one that is no time, wherever it stands among those that are.
func TestWhatIsNoTimeIsPassedBy(t *testing.T) {
	right := []int{9, 4, 9, 0, last}
	for _, wrong := range wrongTimes() {
		if got := First(wrong); got != -1 {
			t.Errorf("First(%d): %d", wrong, got)
		}
		for place := range len(right) + 1 {
			moved := func(at int) int {
				if at >= place {
					return at + 1
				}
				return at
			}
			times := slices.Insert(slices.Clone(right), place, wrong)
			if got, want := First(times...), moved(3); got != want {
				t.Errorf("First(%v): %d, want %d", times, got, want)
			}
			for _, now := range []int{last, last + 1, turn, math.MaxInt} {
				want := []int{moved(3), moved(1), moved(0), moved(2), moved(4)}
				if got := Due(now, times...); !slices.Equal(got, want) {
					t.Errorf("Due(%d; %v): %v, want %v", now, times, got, want)
				}
			}
			for _, now := range []int{-1, -2, -last, -turn, math.MinInt} {
				if got := Due(now, times...); len(got) != 0 {
					t.Errorf("Due(%d; %v): %v", now, times, got)
				}
			}
		}
	}
}

// dueOneByOne goes from time to time, up to 4, and through all places at each:
// the same list, without a sort.
func dueOneByOne(now int, times []int) []int {
	var places []int
	for time := 0; time <= min(now, 4); time++ {
		for place := range times {
			if times[place] == time {
				places = append(places, place)
			}
		}
	}
	return places
}

// eachFew hands on every list of up to five, of the times 0 to 3 and of one that
// is none past each end.
func eachFew(do func(times []int)) {
	for length := range 6 {
		times := make([]int, length)
		var fill func(place int)
		fill = func(place int) {
			if place == length {
				do(times)
				return
			}
			for _, n := range []int{-1, 0, 1, 2, 3, last + 1} {
				times[place] = n
				fill(place + 1)
			}
		}
		fill(0)
	}
}

// P4.2
func TestEveryFewTimes(t *testing.T) {
	eachFew(func(times []int) {
		for now := -1; now <= 4; now++ {
			if got, want := Due(now, times...), dueOneByOne(now, times); !slices.Equal(got, want) {
				t.Fatalf("Due(%d; %v): %v, want %v", now, times, got, want)
			}
		}
		want := -1
		if all := dueOneByOne(4, times); len(all) > 0 {
			want = all[0]
		}
		if got := First(times...); got != want {
			t.Fatalf("First(%v): %d, want %d", times, got, want)
		}
	})
}

// P4.3: later on, what was due comes first still, in the same order, and what
// comes behind it is above what now was.
func TestWhatIsDueStaysSo(t *testing.T) {
	check := func(was, now int, times []int) {
		before, after := Due(was, times...), Due(now, times...)
		if len(after) < len(before) || !slices.Equal(after[:len(before)], before) {
			t.Fatalf("of %v, due at %d: %v, at %d: %v", times, was, before, now, after)
		}
		for _, place := range after[len(before):] {
			if times[place] <= was {
				t.Fatalf("of %v, due at %d: %v, at %d: %v", times, was, before, now, after)
			}
		}
	}
	eachFew(func(times []int) {
		for was := -1; was <= 3; was++ {
			check(was, was+1, times)
		}
	})
	times := append(append(wrongTimes(), rightTimes()...), rightTimes()...)
	nows := append(wrongTimes(), rightTimes()...)
	for _, was := range nows {
		for _, now := range nows {
			if was <= now {
				check(was, now, times)
			}
		}
	}
}

// P4.3
func TestNothingIsDueAheadOfItsTime(t *testing.T) {
	for _, time := range rightTimes() {
		for now := time - 2; now <= time+2; now++ {
			var want []int
			if now >= time {
				want = []int{0}
			}
			if got := Due(now, time); !slices.Equal(got, want) {
				t.Errorf("Due(%d; %d): %v, want %v", now, time, got, want)
			}
		}
	}
}

// P4.1, P4.3: what is so many ticks away is due that many ticks later, and not
// one tick earlier.
func TestDueAfterSoManyTicks(t *testing.T) {
	for _, now := range []int{0, 1, 77, last - 9} {
		for ticks := 1; ticks <= 9; ticks++ {
			time, e := After(now, ticks)
			if e != api.OK {
				t.Fatalf("After(%d, %d): %d", now, ticks, e)
			}
			for later := range ticks {
				if got := Due(now+later, time); len(got) != 0 {
					t.Errorf("Due(%d; %d): %v", now+later, time, got)
				}
			}
			if got := Due(now+ticks, time); !slices.Equal(got, []int{0}) {
				t.Errorf("Due(%d; %d): %v", now+ticks, time, got)
			}
		}
	}
}

// P4.2: lists long enough that a sort that is not stable would mix them.
func TestDueOfMany(t *testing.T) {
	const many = 3000
	times := make([]int, many)
	for place := range times {
		times[place] = (many - place) * 7 % 5
	}
	got := Due(3, times...)
	if want := dueOneByOne(3, times); !slices.Equal(got, want) {
		t.Errorf("Due of %d times: %d places, want %d", many, len(got), len(want))
	}
	if got, want := First(times...), slices.Index(times, 0); got != want {
		t.Errorf("First of %d times: %d, want %d", many, got, want)
	}
}

// R1: the times stay as they were, those behind the end of the list too, and
// the answer is memory of its own.
func TestTimesStayAsTheyWere(t *testing.T) {
	for _, was := range [][]int{{}, {0}, {3, 1, 2}, {7, 5, 3}, {-1, 9, last + 1, 0, 9}, {1, 2, 3}, wrongTimes(), rightTimes()} {
		for _, now := range []int{-1, 0, 2, 5, last, last + 1, math.MaxInt} {
			whole := append(slices.Clone(was), 4, 0, 6)
			room := slices.Clone(whole)
			given := room[:len(was)]
			told := Due(now, given...)
			first := First(given...)
			kept := slices.Clone(told)
			for i := range told {
				told[i] = -1234
			}
			if _ = append(told, -1234); !slices.Equal(room, whole) {
				t.Fatalf("Due at %d, or First, changed %v into %v", now, whole, room)
			}
			told = Due(now, given...)
			if !slices.Equal(told, kept) || First(given...) != first {
				t.Fatalf("Due(%d; %v) told %v, then %v", now, was, kept, told)
			}
			for i := range room {
				room[i] = -4321
			}
			if !slices.Equal(told, kept) {
				t.Fatalf("Due(%d; %v) shares memory with the times", now, was)
			}
		}
	}
}
