package span

import (
	"math"
	"math/big"
	"testing"

	"handshaker/api"
)

const (
	least    = -api.MaxValue - 1
	greatest = api.MaxValue
	turn     = 1 << 32
)

// edges are ordinary numbers, the least and the greatest value and their
// neighbours, the same numbers some turns away, and the ends of int.
func edges() []int {
	near := []int{
		0, 1, -1, 2, -2, 7, -13, 46340, 46341, -46341, 65535, 65536, -65537, 123456789, -987654321,
		least - 2, least - 1, least, least + 1, least + 2,
		greatest - 2, greatest - 1, greatest, greatest + 1, greatest + 2,
	}
	all := []int{
		math.MinInt, math.MinInt + 1, math.MinInt + turn, math.MinInt - least, math.MinInt - least - 1,
		math.MaxInt, math.MaxInt - 1, math.MaxInt - turn, math.MaxInt - greatest, math.MaxInt - greatest - 1,
	}
	for _, turns := range []int{0, 1, -1, 2, -2, 1000, -1000, 1 << 30, -1 << 30} {
		for _, n := range near {
			all = append(all, n+turns*turn)
		}
	}
	return all
}

// round reckons in numbers without an end where n goes round to: the remainder
// of the distance to the least value, counted from the least value.
func round(n *big.Int) int {
	low := big.NewInt(least)
	far := new(big.Int).Sub(n, low)
	far.Mod(far, big.NewInt(turn))
	return int(far.Add(far, low).Int64())
}

func roundInt(n int) int { return round(big.NewInt(int64(n))) }

// P1.1
func TestRightAtTheEdges(t *testing.T) {
	for _, c := range []struct {
		n    int
		want bool
	}{
		{0, true}, {1, true}, {-1, true}, {123456789, true}, {-987654321, true},
		{-2147483650, false}, {-2147483649, false}, {-2147483648, true}, {-2147483647, true},
		{2147483646, true}, {2147483647, true}, {2147483648, false}, {2147483649, false},
		{turn, false}, {-turn, false}, {turn + 5, false}, {-turn - 5, false}, {turn - 1, false}, {-turn + 1, false},
		{math.MinInt, false}, {math.MinInt + 1, false}, {math.MaxInt, false}, {math.MaxInt - 1, false},
	} {
		if got := Right(c.n); got != c.want {
			t.Errorf("Right(%d) = %v, want %v", c.n, got, c.want)
		}
	}
}

// P1.1
func TestWrapAtTheEdges(t *testing.T) {
	for _, c := range []struct{ n, want int }{
		{0, 0}, {5, 5}, {-5, -5}, {123456789, 123456789},
		{-2147483650, 2147483646}, {-2147483649, 2147483647}, {-2147483648, -2147483648}, {-2147483647, -2147483647},
		{2147483646, 2147483646}, {2147483647, 2147483647}, {2147483648, -2147483648}, {2147483649, -2147483647},
		{turn, 0}, {-turn, 0}, {turn + 5, 5}, {turn - 5, -5}, {-turn + 5, 5}, {-turn - 5, -5},
		{3*turn + greatest, greatest}, {-3*turn + least, least},
		{math.MinInt, 0}, {math.MinInt + 1, 1}, {math.MinInt + greatest, greatest}, {math.MinInt - least, least},
		{math.MaxInt, -1}, {math.MaxInt - 1, -2}, {math.MaxInt - greatest, least}, {math.MaxInt - greatest - 1, greatest},
	} {
		if got := Wrap(c.n); got != c.want {
			t.Errorf("Wrap(%d) = %d, want %d", c.n, got, c.want)
		}
	}
}

// P1.1: the definition, at each of the edges.
func TestWrapIsTheOnlyValueTurnsAway(t *testing.T) {
	for _, n := range edges() {
		got := Wrap(n)
		if want := roundInt(n); got != want {
			t.Errorf("Wrap(%d) = %d, want %d", n, got, want)
		}
		if !Right(got) {
			t.Errorf("Wrap(%d) = %d, which is no value", n, got)
		}
		if Right(n) != (got == n) {
			t.Errorf("Right(%d) = %v, but Wrap(%d) = %d", n, Right(n), n, got)
		}
	}
}

// P1.2: written out, the chapter's example first.
func TestSumsDifferencesProducts(t *testing.T) {
	for _, c := range []struct {
		name string
		call func(a, b int) int
		a, b int
		want int
	}{
		{"Add", Add, 2147483647, 1, -2147483648},
		{"Add", Add, 2, 3, 5},
		{"Add", Add, least, -1, greatest},
		{"Add", Add, least, least, 0},
		{"Add", Add, greatest, greatest, -2},
		{"Add", Add, least, greatest, -1},
		{"Add", Add, turn + 4, -turn + 5, 9},
		{"Add", Add, greatest + 1, 0, least},
		{"Add", Add, math.MaxInt, math.MaxInt, -2},
		{"Add", Add, math.MinInt, math.MinInt, 0},
		{"Add", Add, math.MaxInt, 1, 0},
		{"Sub", Sub, 5, 7, -2},
		{"Sub", Sub, least, 1, greatest},
		{"Sub", Sub, greatest, -1, least},
		{"Sub", Sub, 0, least, least},
		{"Sub", Sub, least, greatest, 1},
		{"Sub", Sub, greatest, least, -1},
		{"Sub", Sub, 3*turn + 1, 2, -1},
		{"Sub", Sub, math.MinInt, 1, -1},
		{"Sub", Sub, math.MinInt, math.MaxInt, 1},
		{"Sub", Sub, 0, math.MinInt, 0},
		{"Mul", Mul, 6, -7, -42},
		{"Mul", Mul, least, -1, least},
		{"Mul", Mul, least, least, 0},
		{"Mul", Mul, greatest, greatest, 1},
		{"Mul", Mul, greatest, least, least},
		{"Mul", Mul, 65536, 65536, 0},
		{"Mul", Mul, 65536, 32768, least},
		{"Mul", Mul, 123456789, 987654321, -67153019},
		{"Mul", Mul, turn + 3, turn + 4, 12},
		{"Mul", Mul, math.MaxInt, math.MaxInt, 1},
		{"Mul", Mul, math.MinInt, -1, 0},
		{"Mul", Mul, math.MinInt + 1, greatest, greatest},
	} {
		if got := c.call(c.a, c.b); got != c.want {
			t.Errorf("%s(%d, %d) = %d, want %d", c.name, c.a, c.b, got, c.want)
		}
	}
}

// P1.2: each pair of edges, against numbers without an end.
func TestReckoningGoesRound(t *testing.T) {
	for _, a := range edges() {
		for _, b := range edges() {
			x, y := big.NewInt(int64(roundInt(a))), big.NewInt(int64(roundInt(b)))
			if got, want := Add(a, b), round(new(big.Int).Add(x, y)); got != want {
				t.Fatalf("Add(%d, %d) = %d, want %d", a, b, got, want)
			}
			if got, want := Sub(a, b), round(new(big.Int).Sub(x, y)); got != want {
				t.Fatalf("Sub(%d, %d) = %d, want %d", a, b, got, want)
			}
			if got, want := Mul(a, b), round(new(big.Int).Mul(x, y)); got != want {
				t.Fatalf("Mul(%d, %d) = %d, want %d", a, b, got, want)
			}
		}
	}
}

// P1.2
func TestTruth(t *testing.T) {
	if got := Truth(true); got != 1 {
		t.Errorf("Truth(true) = %d, want 1", got)
	}
	if got := Truth(false); got != 0 {
		t.Errorf("Truth(false) = %d, want 0", got)
	}
}

// P1.3: what is added is taken away again, and the other way round.
func TestAddedIsTakenAway(t *testing.T) {
	for _, a := range edges() {
		for _, b := range edges() {
			if got, want := Sub(Add(a, b), b), Wrap(a); got != want {
				t.Fatalf("Sub(Add(%d, %d), %d) = %d, want %d", a, b, b, got, want)
			}
			if got, want := Add(Sub(a, b), b), Wrap(a); got != want {
				t.Fatalf("Add(Sub(%d, %d), %d) = %d, want %d", a, b, b, got, want)
			}
		}
	}
}

// P1.3: sums and products of two go in any order.
func TestTwoInAnyOrder(t *testing.T) {
	for _, a := range edges() {
		for _, b := range edges() {
			if x, y := Add(a, b), Add(b, a); x != y {
				t.Fatalf("Add of %d and %d: %d, and %d the other way", a, b, x, y)
			}
			if x, y := Mul(a, b), Mul(b, a); x != y {
				t.Fatalf("Mul of %d and %d: %d, and %d the other way", a, b, x, y)
			}
		}
	}
}

// P1.3: so do those of three.
func TestThreeInAnyOrder(t *testing.T) {
	for _, a := range edges() {
		for _, b := range edges() {
			for _, c := range edges() {
				if x, y := Add(Add(a, b), c), Add(a, Add(b, c)); x != y {
					t.Fatalf("Add of %d, %d and %d: %d, and %d from behind", a, b, c, x, y)
				}
				if x, y := Mul(Mul(a, b), c), Mul(a, Mul(b, c)); x != y {
					t.Fatalf("Mul of %d, %d and %d: %d, and %d from behind", a, b, c, x, y)
				}
			}
		}
	}
}
