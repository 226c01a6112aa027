package code

import (
	"math"
	"slices"
	"testing"

	"handshaker/api"
	"handshaker/term"
)

const (
	least    = -api.MaxValue - 1
	greatest = api.MaxValue
	turn     = 1 << 32
)

var retry = Step{Do: Retry}

func one() []term.Op { return []term.Op{{Kind: term.Const, N: 1}} }

func load(reg, cell int) Step     { return Step{Do: Load, A: reg, B: cell} }
func set(reg int) Step            { return Step{Do: Set, A: reg, Term: one()} }
func store(cell int) Step         { return Step{Do: Store, A: cell, Term: one()} }
func skip(n int) Step             { return Step{Do: Skip, A: n, Term: one()} }
func fail(why int) Step           { return Step{Do: Fail, A: why} }
func either(first, next int) Step { return Step{Do: Either, A: first, B: next} }
func retries(n int) []Step        { return slices.Repeat([]Step{retry}, n) }
func steps(c ...Step) []Step      { return c }

// choose is an Either of just these parts.
func choose(first, next []Step) []Step {
	return slices.Concat(steps(either(len(first), len(next))), first, next)
}

// nest puts a part into n Eithers, each in the one around it: as the first part,
// as the second one, or by turns.
func nest(part []Step, n, way int) []Step {
	for i := range n {
		if way == 0 || way == 2 && i%2 == 0 {
			part = choose(part, retries(1))
		} else {
			part = choose(retries(1), part)
		}
	}
	return part
}

func with[T any](l []T, place int, x T) []T {
	l = slices.Clone(l)
	l[place] = x
	return l
}

// brief keeps what is long out of the tests' messages.
func brief[T any](l []T) []T { return l[:min(len(l), 24)] }

// rightTerms stand well, and name no cell.
func rightTerms() [][]term.Op {
	all := [][]term.Op{
		{{Kind: term.Const, N: 0}}, {{Kind: term.Const, N: least}}, {{Kind: term.Const, N: greatest}},
		{{Kind: term.Const, N: 2}, {Kind: term.Const, N: 5}, {Kind: term.Less}},
		{{Kind: term.Reg, N: 1}, {Kind: term.Reg, N: 7}, {Kind: term.Times}, {Kind: term.Not}},
		append(one(), slices.Repeat([]term.Op{{Kind: term.Not}}, 11)...),
	}
	for n := range 8 {
		all = append(all, []term.Op{{Kind: term.Reg, N: n}})
	}
	return all
}

// wrongTerms are none where one is named, have an error of layer 7, or name a
// cell, wherever it stands.
func wrongTerms() [][]term.Op {
	not := term.Op{Kind: term.Not}
	return [][]term.Op{
		nil, {},
		{{}}, {{Kind: 12}}, {{Kind: -1}}, {{Kind: turn + 1}},
		{{Kind: term.Const, N: greatest + 1}}, {{Kind: term.Const, N: least - 1}}, {{Kind: term.Const, N: turn}},
		{{Kind: term.Reg, N: 8}}, {{Kind: term.Reg, N: -1}},
		{{Kind: term.Const, N: 1}, {Kind: term.Not, N: 1}},
		{not}, {{Kind: term.Plus}}, {{Kind: term.Const}, {Kind: term.Const}}, {{Kind: term.Const}, {Kind: term.Plus}},
		{{Kind: term.Const}, {Kind: term.Plus}, {Kind: term.Const}},
		append(one(), slices.Repeat([]term.Op{not}, 12)...),
		append(one(), slices.Repeat([]term.Op{not}, 1<<16)...),
		{{Kind: term.Cell}}, {{Kind: term.Cell, N: 1}}, {{Kind: term.Cell, N: 63}}, {{Kind: term.Cell, N: 64}}, {{Kind: term.Cell, N: -1}},
		{{Kind: term.Cell, N: 5}, not},
		{{Kind: term.Const, N: 1}, {Kind: term.Cell, N: 5}, {Kind: term.Plus}},
		{{Kind: term.Cell, N: 5}, {Kind: term.Reg, N: 1}, {Kind: term.Times}},
		{{Kind: term.Cell, N: 5}, {Kind: term.Cell, N: 6}},
		append(slices.Repeat([]term.Op{not}, 11), term.Op{Kind: term.Cell}),
	}
}

// rightSteps may stand anywhere: what they name ends with them.
func rightSteps() []Step {
	all := []Step{
		load(0, 0), load(7, 0), load(0, 63), load(7, 63), load(3, 31),
		set(0), set(7), store(0), store(63), retry, fail(0), fail(1), fail(254), fail(255),
		{Do: Load, Term: []term.Op{}}, {Do: Retry, Term: []term.Op{}}, {Do: Fail, Term: []term.Op{}},
	}
	for _, x := range rightTerms() {
		all = append(all, Step{Do: Set, A: 1, Term: x}, Step{Do: Store, A: 1, Term: x})
	}
	return all
}

// wrongSteps may not be, wherever they stand: each has one thing that is wrong.
func wrongSteps() []Step {
	all := []Step{
		load(-1, 0), load(8, 0), load(63, 0), load(turn, 0), load(math.MinInt, 0), load(math.MaxInt, 0),
		load(0, -1), load(0, 64), load(0, turn), load(0, -turn), load(0, math.MinInt), load(0, math.MaxInt),
		set(-1), set(8), set(63), set(turn), set(math.MinInt), set(math.MaxInt),
		store(-1), store(64), store(turn), store(math.MinInt), store(math.MaxInt),
		skip(0), skip(-1), skip(-24), skip(25), skip(turn), skip(turn + 1), skip(math.MinInt), skip(math.MaxInt),
		fail(-1), fail(256), fail(turn), fail(turn + 1), fail(math.MinInt), fail(math.MaxInt),
		either(0, 1), either(-1, 1), either(25, 1), either(turn, 1), either(turn+1, 1), either(math.MinInt, 1), either(math.MaxInt, 1),
		either(1, 0), either(1, -1), either(1, 25), either(1, turn), either(1, turn+1), either(1, math.MinInt), either(1, math.MaxInt),
		either(0, 0), either(2, -1), either(-1, 2), either(math.MaxInt, math.MaxInt), either(math.MinInt, math.MinInt),
	}
	for _, n := range []int{1, -1, 24, 64, 256, turn, -turn, math.MinInt, math.MaxInt} {
		all = append(all,
			Step{Do: Retry, A: n}, Step{Do: Retry, B: n}, Step{Do: Fail, B: n},
			Step{Do: Set, B: n, Term: one()}, Step{Do: Store, B: n, Term: one()}, Step{Do: Skip, A: 1, B: n, Term: one()},
		)
	}
	for _, do := range []int{0, -1, -2, -7, 8, 9, 16, 256, 257, 256 + 5, turn, turn + 5, -turn + 5, math.MinInt, math.MinInt + 5, math.MaxInt} {
		all = append(all, Step{Do: do}, Step{Do: do, A: 1}, Step{Do: do, Term: one()})
	}
	for _, x := range slices.Concat(wrongTerms(), rightTerms()) {
		if len(x) > 0 {
			all = append(all, Step{Do: Load, Term: x}, Step{Do: Retry, Term: x}, Step{Do: Fail, Term: x}, Step{Do: Either, A: 1, B: 1, Term: x})
		}
	}
	for _, x := range wrongTerms() {
		all = append(all, Step{Do: Set, Term: x}, Step{Do: Store, Term: x}, Step{Do: Skip, A: 1, Term: x})
	}
	return all
}

// notWell are of steps that may be, with one that names more than there is
// behind it.
func notWell() [][]Step {
	return [][]Step{
		steps(skip(1)), steps(skip(24)), steps(skip(2), retry), steps(retry, skip(1)), steps(skip(1), skip(1)),
		steps(either(1, 1)), steps(either(1, 1), retry), steps(either(2, 1), retry, retry), steps(either(1, 2), retry, retry),
		steps(either(24, 24)), steps(either(24, 1)), steps(either(1, 24)), steps(retry, either(1, 1), retry),
		choose(steps(skip(1)), retries(1)), choose(retries(1), steps(skip(1))),
		choose(steps(either(1, 1)), retries(2)), choose(retries(2), steps(either(1, 1), retry)),
		choose(steps(either(1, 1), retry), retries(1)),
	}
}

// tooDeep are of right steps, and well, but for how deep they are.
func tooDeep() [][]Step {
	var all [][]Step
	for deep := 7; deep <= 11; deep++ {
		for way := range 3 {
			all = append(all, nest(steps(load(1, 5)), deep, way))
		}
	}
	return append(all,
		slices.Concat(steps(store(3)), choose(retries(1), retries(1)), nest(retries(1), 7, 0)),
		slices.Concat(nest(retries(1), 7, 1), choose(retries(1), retries(1)), steps(store(3))),
		choose(nest(retries(1), 6, 0), nest(retries(1), 3, 1)),
		choose(nest(retries(1), 3, 0), nest(retries(1), 6, 1)),
		slices.Concat(steps(skip(15)), nest(retries(1), 7, 2)),
		slices.Concat(nest(retries(1), 7, 2), retries(9)),
	)
}

// wellDeep is a code that may be, and how deep it is.
type wellDeep struct {
	code []Step
	deep int
}

func rightCodes() []wellDeep {
	all := []wellDeep{
		{nil, 0}, {steps(), 0}, {retries(1), 0}, {retries(24), 0}, {rightSteps()[:24], 0},
		{slices.Concat(steps(skip(23)), retries(23)), 0},
		{append(slices.Repeat(steps(skip(1)), 23), retry), 0},
		{choose(retries(22), retries(1)), 1}, {choose(retries(1), retries(22)), 1},
		{choose(steps(load(0, 9)), steps(store(4))), 1},
		{choose(steps(skip(1), retry), steps(skip(1), retry)), 1},
		{slices.Repeat(choose(retries(1), retries(1)), 8), 1},
		{choose(choose(retries(1), retries(1)), choose(retries(1), retries(1))), 2},
		{choose(nest(retries(1), 2, 0), retries(3)), 3}, {choose(retries(3), nest(retries(1), 2, 0)), 3},
		{choose(nest(retries(1), 1, 0), nest(retries(1), 3, 1)), 4}, {choose(nest(retries(1), 3, 0), nest(retries(1), 1, 1)), 4},
		{choose(retries(1), nest(retries(1), 5, 1)), 6}, {choose(nest(retries(1), 5, 0), retries(1)), 6},
		{slices.Concat(nest(retries(1), 1, 0), nest(retries(1), 3, 1)), 3}, {slices.Concat(nest(retries(1), 3, 0), nest(retries(1), 1, 1)), 3},
		{slices.Concat(steps(skip(1)), choose(retries(1), retries(1))), 1}, {slices.Concat(steps(skip(2)), choose(retries(1), retries(1))), 1},
		{slices.Concat(steps(skip(3)), choose(retries(1), retries(1))), 1}, {slices.Concat(steps(skip(5)), nest(retries(1), 2, 0)), 2},
		{slices.Concat(steps(skip(1), retry), nest(retries(1), 4, 2)), 4},
		{choose(append(steps(skip(4)), nest(retries(1), 2, 1)...), retries(2)), 3},
		{slices.Concat(nest(retries(1), 6, 2), retries(11)), 6}, {slices.Concat(retries(11), nest(retries(1), 6, 2)), 6},
		{slices.Concat(nest(retries(1), 1, 0), nest(retries(1), 6, 0), nest(retries(1), 2, 0)), 6},
	}
	for deep := range 7 {
		for way := range 3 {
			all = append(all, wellDeep{nest(steps(load(1, 5)), deep, way), deep})
		}
	}
	return all
}

func wantCheck(t *testing.T, c []Step, want api.Errno) {
	t.Helper()
	if got := Check(c); got != want {
		t.Errorf("Check of %d steps %v: %d, want %d", len(c), brief(c), got, want)
	}
}

// wantError asks for what Deep and Cells tell of it, too.
func wantError(t *testing.T, c []Step, want api.Errno) {
	t.Helper()
	wantCheck(t, c, want)
	if n := Deep(c); n != 0 {
		t.Errorf("Deep of %d steps %v: %d", len(c), brief(c), n)
	}
	if l := Cells(c); len(l) != 0 {
		t.Errorf("Cells of %d steps %v: %v", len(c), brief(c), l)
	}
}

func wantDeep(t *testing.T, c []Step, want int) {
	t.Helper()
	wantCheck(t, c, api.OK)
	if got := Deep(c); got != want {
		t.Errorf("Deep of %d steps %v: %d, want %d", len(c), brief(c), got, want)
	}
}

// P8.1: the numbers are what the chapter says.
func TestNumbers(t *testing.T) {
	got := []int{Load, Set, Store, Skip, Retry, Fail, Either, MaxCode, MaxDeep}
	if want := []int{1, 2, 3, 4, 5, 6, 7, 24, 6}; !slices.Equal(got, want) {
		t.Errorf("what a step does, MaxCode and MaxDeep: %v", got)
	}
}

// P8.1: the chapter's examples.
func TestExamples(t *testing.T) {
	wantDeep(t, steps(retry), 0)
	wantError(t, steps(either(1, 1), retry), api.ErrForm)
}

// P8.1
func TestRightCodes(t *testing.T) {
	for _, c := range rightCodes() {
		wantDeep(t, c.code, c.deep)
	}
	for _, s := range rightSteps() {
		wantDeep(t, steps(s), 0)
		wantDeep(t, append(retries(23), s), 0)
		wantDeep(t, choose(steps(s), steps(s)), 1)
	}
}

// P8.1: how many steps there may be.
func TestEachLength(t *testing.T) {
	for n := range 25 {
		wantDeep(t, retries(n), 0)
		wantDeep(t, slices.Repeat(steps(store(3)), n), 0)
	}
	for _, n := range []int{25, 26, 48, 255, 256, 257, 256 + 24, 1<<16 + 1} {
		wantError(t, retries(n), api.ErrArg)
		wantError(t, slices.Repeat(steps(store(3)), n), api.ErrArg)
		wantError(t, choose(retries(n-2), retries(1)), api.ErrArg)
	}
}

// may is what the chapter's table says of a Do: the ends of A and of B, and
// whether there is a Term.
type may struct {
	leastA, greatestA, leastB, greatestB int
	term                                 bool
}

func mays() map[int]may {
	return map[int]may{
		1: {0, 7, 0, 63, false},
		2: {0, 7, 0, 0, true},
		3: {0, 63, 0, 0, true},
		4: {1, 24, 0, 0, true},
		5: {0, 0, 0, 0, false},
		6: {0, 255, 0, 0, false},
		7: {1, 24, 1, 24, false},
	}
}

// P8.1: each Do, with an A and a B around each end that there is, a Term, none,
// one that names a cell, and one that does not stand well.
func TestEachStepBesideTheTable(t *testing.T) {
	terms := [][]term.Op{nil, {}, one(), {{Kind: term.Cell, N: 1}}, {{Kind: term.Not}}}
	var numbers []int
	for _, near := range []int{0, 7, 24, 63, 255} {
		numbers = append(numbers, near-1, near, near+1)
	}
	numbers = append(numbers, 12, 2, turn, turn+1, -turn+1, math.MinInt, math.MinInt+1, math.MaxInt)
	for do := -3; do <= 12; do++ {
		m, known := mays()[do]
		for _, a := range numbers {
			for _, b := range numbers {
				for kind, x := range terms {
					want, names := api.OK, 0
					switch do {
					case Skip:
						names = a
					case Either:
						names = a + b
					}
					switch {
					case !known || a < m.leastA || a > m.greatestA || b < m.leastB || b > m.greatestB:
						want = api.ErrArg
					case m.term && kind != 2 || !m.term && kind > 1:
						want = api.ErrArg
					case names > 23:
						want = api.ErrForm
					}
					wantCheck(t, append(steps(Step{Do: do, A: a, B: b, Term: x}), retries(23)...), want)
				}
			}
		}
	}
}

// P8.1
func TestWrongSteps(t *testing.T) {
	for _, s := range wrongSteps() {
		wantError(t, steps(s), api.ErrArg)
		wantError(t, append(steps(s), retries(23)...), api.ErrArg)
	}
}

// P8.1: a step is looked at wherever it stands, left out by a Skip or not.
func TestEachPlaceIsLookedAt(t *testing.T) {
	wrong := wrongSteps()
	for i, c := range rightCodes() {
		for place := range c.code {
			for j := (i + place) % 7; j < len(wrong); j += 7 {
				wantError(t, with(c.code, place, wrong[j]), api.ErrArg)
			}
		}
	}
	long := append(steps(skip(23)), slices.Repeat(steps(load(1, 2)), 23)...)
	for place := range long {
		for _, s := range wrong {
			wantError(t, with(long, place, s), api.ErrArg)
		}
	}
}

// P8.1
func TestTerms(t *testing.T) {
	for _, do := range []int{Set, Store, Skip} {
		for _, x := range rightTerms() {
			wantDeep(t, steps(Step{Do: do, A: 1, Term: x}, retry), 0)
		}
		for _, x := range wrongTerms() {
			wantError(t, steps(Step{Do: do, A: 1, Term: x}, retry), api.ErrArg)
		}
	}
}

// around puts a part into Eithers, at each depth that there may be with it, with
// enough steps behind for what does not end in the part.
func around(part []Step, deepest int) [][]Step {
	all := [][]Step{part}
	for deep := 1; deep <= deepest; deep++ {
		for way := range 3 {
			c := nest(part, deep, way)
			all = append(all, c, slices.Concat(steps(set(1)), c, retries(24-1-len(c))))
		}
		inTheFirst := choose(part, retries(4))
		inTheSecond := choose(retries(4), part)
		for way := range 3 {
			all = append(all, nest(inTheFirst, deep-1, way), nest(inTheSecond, deep-1, way))
		}
	}
	return all
}

// P8.1: a Skip's steps end with the part, or one step behind it, in the whole and
// in each part of an Either.
func TestSkipsEndInThePart(t *testing.T) {
	for behind := range 4 {
		for n := 1; n <= 5; n++ {
			part := append(steps(retry, skip(n)), retries(behind)...)
			want := api.OK
			if n > behind {
				want = api.ErrForm
			}
			for _, c := range around(part, 6) {
				wantCheck(t, c, want)
			}
		}
	}
	wantDeep(t, append(steps(skip(23)), retries(23)...), 0)
	wantError(t, append(steps(skip(24)), retries(23)...), api.ErrForm)
	wantError(t, append(retries(23), skip(1)), api.ErrForm)
}

// P8.1: an Either's steps end with the part, or one step behind it.
func TestEithersEndInThePart(t *testing.T) {
	for behind := range 5 {
		for a := 1; a <= 4; a++ {
			for b := 1; b <= 4; b++ {
				part := append(steps(retry, either(a, b)), retries(behind)...)
				want := api.OK
				if a+b > behind {
					want = api.ErrForm
				}
				for _, c := range around(part, 5) {
					wantCheck(t, c, want)
				}
			}
		}
	}
	for a := 1; a <= 24; a++ {
		for b := 1; b <= 24; b++ {
			c := append(steps(either(a, b)), retries(23)...)
			if a+b <= 23 {
				wantDeep(t, c, 1)
			} else {
				wantError(t, c, api.ErrForm)
			}
		}
	}
}

// P8.1: a Skip ahead of an Either may end anywhere in the whole, in the Either's
// parts, too; one in a part may not leave it.
func TestSkipsAndEithers(t *testing.T) {
	for n := 1; n <= 8; n++ {
		ahead := slices.Concat(steps(skip(n)), choose(retries(2), retries(2)), retries(1))
		inTheFirst := choose(steps(skip(n), retry, retry), retries(3))
		inTheSecond := append(choose(retries(3), steps(skip(n), retry, retry)), retries(3)...)
		inAnInnerOne := choose(append(steps(skip(n)), choose(retries(1), retries(1))...), retries(6))
		for _, x := range []struct {
			code   []Step
			end, d int
		}{{ahead, 6, 1}, {inTheFirst, 2, 1}, {inTheSecond, 2, 1}, {inAnInnerOne, 3, 2}} {
			if n <= x.end {
				wantDeep(t, x.code, x.d)
			} else {
				wantError(t, x.code, api.ErrForm)
			}
		}
	}
}

// P8.1: parts that are not well, at each depth, whatever stands behind them.
func TestPartsThatAreNotWell(t *testing.T) {
	for _, part := range notWell() {
		wantError(t, part, api.ErrForm)
		for deep := range 8 {
			for way := range 3 {
				c := nest(part, deep, way)
				wantError(t, c, api.ErrForm)
				wantError(t, slices.Concat(steps(load(1, 2)), c), api.ErrForm)
				wantError(t, nest(choose(part, part), min(deep, 4), way), api.ErrForm)
			}
		}
	}
}

// P8.1: what stands in memory behind the steps is none of them.
func TestOnlyTheStepsThereAre(t *testing.T) {
	whole := slices.Concat(choose(retries(1), retries(1)), choose(retries(1), retries(1)), steps(skip(1), load(1, 2)))
	for n := range len(whole) + 1 {
		want := api.OK
		if n == 1 || n == 2 || n == 4 || n == 5 || n == 7 {
			want = api.ErrForm
		}
		wantCheck(t, whole[:n], want)
	}
	if l := Cells(whole[:6]); len(l) != 0 {
		t.Errorf("Cells of steps that name none: %v", l)
	}
}

// P8.1: as deep as MaxDeep, and deeper.
func TestTooDeep(t *testing.T) {
	for way := range 3 {
		for deep := range 12 {
			c := nest(steps(load(1, 5)), deep, way)
			if deep <= 6 {
				wantDeep(t, c, deep)
			} else {
				wantError(t, c, api.ErrBig)
			}
		}
	}
	for _, c := range tooDeep() {
		wantError(t, c, api.ErrBig)
	}
}

// P8.1: ErrArg comes ahead of ErrForm and of ErrBig, in whatever order they are
// met.
func TestErrArgIsToldFirst(t *testing.T) {
	for _, c := range slices.Concat(notWell(), tooDeep()) {
		for _, s := range wrongSteps() {
			wantCheck(t, slices.Concat(steps(s), c), api.ErrArg)
			wantCheck(t, append(slices.Clone(c), s), api.ErrArg)
			wantCheck(t, with(c, len(c)-1, s), api.ErrArg)
			wantCheck(t, with(c, 0, s), api.ErrArg)
		}
		wantError(t, append(retries(25-len(c)), c...), api.ErrArg)
		wantError(t, append(slices.Clone(c), retries(25)...), api.ErrArg)
	}
	wantError(t, steps(Step{Do: Skip, A: 5}), api.ErrArg)
	wantError(t, steps(Step{Do: Either, A: 5, B: 5, Term: one()}), api.ErrArg)
	wantError(t, nest(retries(1), 12, 0), api.ErrArg)
}

// P8.1: ErrForm comes ahead of ErrBig, wherever the part that is not well stands.
func TestErrFormIsToldAheadOfErrBig(t *testing.T) {
	for _, c := range tooDeep() {
		if len(c) < 24 {
			wantError(t, append(slices.Clone(c), skip(1)), api.ErrForm)
			wantError(t, append(slices.Clone(c), either(1, 1)), api.ErrForm)
			wantError(t, slices.Concat(steps(skip(24)), c), api.ErrForm)
			wantError(t, slices.Concat(steps(either(24, 24)), c), api.ErrForm)
		}
		for place, s := range c {
			if s.Do != Either {
				wantError(t, with(c, place, skip(24)), api.ErrForm)
				wantError(t, with(c, place, either(24, 1)), api.ErrForm)
			}
		}
	}
}

// P8.1: the deepest part is the first, or the second one, of an Either, or stands
// behind a Skip.
func TestDeepest(t *testing.T) {
	for a := range 5 {
		for b := range 5 {
			first, next := nest(retries(1), a, 0), nest(retries(1), b, 1)
			wantDeep(t, choose(first, next), 1+max(a, b))
			wantDeep(t, slices.Concat(first, next), max(a, b))
			wantDeep(t, slices.Concat(steps(set(1)), choose(first, next), retries(1)), 1+max(a, b))
			for n := 1; n <= len(first)+len(next); n++ {
				wantDeep(t, slices.Concat(steps(skip(n)), first, next), max(a, b))
			}
			for n := 1; n <= len(next); n++ {
				wantDeep(t, choose(first, append(steps(skip(n)), next...)), 1+max(a, b))
			}
		}
	}
}

// P8.1
func TestCells(t *testing.T) {
	for _, x := range []struct {
		code []Step
		want []int
	}{
		{nil, nil},
		{steps(retry), nil},
		{steps(set(3), fail(5), skip(1), retry), nil},
		{choose(retries(2), retries(3)), nil},
		{steps(load(7, 3)), []int{3}},
		{steps(load(3, 7)), []int{7}},
		{steps(load(0, 0)), []int{0}},
		{steps(load(0, 63)), []int{63}},
		{steps(store(0)), []int{0}},
		{steps(store(5)), []int{5}},
		{steps(load(0, 5), store(2), load(0, 2)), []int{2, 5}},
		{steps(load(0, 4), load(1, 4)), []int{4}},
		{steps(store(4), store(4)), []int{4}},
		{steps(load(1, 4), store(4)), []int{4}},
		{steps(store(4), load(1, 4)), []int{4}},
		{steps(store(9), load(1, 10), store(1), load(1, 63), store(0), load(1, 9), store(10)), []int{0, 1, 9, 10, 63}},
		{steps(load(1, 3), store(2), load(1, 1)), []int{1, 2, 3}},
		{steps(skip(2), load(1, 3), store(2), load(1, 1)), []int{1, 2, 3}},
		{choose(steps(load(1, 8)), steps(store(6))), []int{6, 8}},
		{choose(steps(store(6)), steps(load(1, 6))), []int{6}},
		{append(choose(choose(steps(load(1, 20)), steps(store(10))), steps(store(30))), load(2, 5)), []int{5, 10, 20, 30}},
		{nest(steps(load(1, 44), store(43)), 6, 2), []int{43, 44}},
		{steps(retry, load(1, 8)), []int{8}},
		{steps(fail(9), store(8)), []int{8}},
		{steps(Step{Do: Store, A: 8, Term: []term.Op{{Kind: term.Reg, N: 5}}}, load(5, 2)), []int{2, 8}},
	} {
		wantCheck(t, x.code, api.OK)
		if got := Cells(x.code); !slices.Equal(got, x.want) {
			t.Errorf("Cells(%v) = %v, want %v", x.code, got, x.want)
		}
	}
}

// P8.1: each cell that there may be, alone and beside each other one, by Loads and
// by Stores.
func TestCellsOfEachPair(t *testing.T) {
	names := []func(int) Step{func(n int) Step { return load(n%8, n) }, store}
	for a := range 64 {
		for b := range 64 {
			want := []int{min(a, b), max(a, b)}
			if a == b {
				want = want[:1]
			}
			for _, first := range names {
				for _, next := range names {
					if got := Cells(steps(first(a), next(b))); !slices.Equal(got, want) {
						t.Errorf("Cells of %d and %d: %v", a, b, got)
					}
				}
			}
		}
	}
}

// P8.1: as many cells as steps, falling.
func TestCellsOfTheLongest(t *testing.T) {
	for first := range 41 {
		var c []Step
		var want []int
		for i := range 24 {
			want = append(want, first+i)
			if cell := first + 23 - i; i%2 == 0 {
				c = append(c, store(cell))
			} else {
				c = append(c, load(i%8, cell))
			}
		}
		if got := Cells(c); !slices.Equal(got, want) {
			t.Errorf("Cells of %d to %d: %v", first, first+23, got)
		}
	}
}

// P8.1: what has an error has no cells, and is not deep, though it names some.
func TestCellsAndDeepOfErrors(t *testing.T) {
	named := append(steps(load(1, 5), store(6)), choose(steps(load(1, 7)), steps(store(8)))...)
	wantDeep(t, named, 1)
	for _, s := range wrongSteps() {
		wantError(t, append(slices.Clone(named), s), api.ErrArg)
		wantError(t, slices.Concat(steps(s), named), api.ErrArg)
	}
	wantError(t, append(slices.Clone(named), retries(20)...), api.ErrArg)
	for _, c := range notWell() {
		wantError(t, slices.Concat(named, c), api.ErrForm)
	}
	wantError(t, append(slices.Clone(named), nest(retries(1), 7, 0)...), api.ErrBig)
	wantError(t, append(nest(retries(1), 7, 1), named...), api.ErrBig)
}

// wellByWords asks of each step from lo on, ahead of hi, what the chapter's words
// ask, in the Eithers' parts as often as they stand in one another.
func wellByWords(c []Step, lo, hi int) bool {
	for i := lo; i < hi; i++ {
		mid := i + 1 + c[i].A
		switch c[i].Do {
		case Skip:
			if mid > hi {
				return false
			}
		case Either:
			if end := mid + c[i].B; end > hi || !wellByWords(c, i+1, mid) || !wellByWords(c, mid, end) {
				return false
			}
		}
	}
	return true
}

func deepByWords(c []Step, lo, hi int) int {
	deep := 0
	for i := lo; i < hi; i++ {
		if mid := i + 1 + c[i].A; c[i].Do == Either {
			deep = max(deep, 1+deepByWords(c, i+1, mid), 1+deepByWords(c, mid, mid+c[i].B))
		}
	}
	return deep
}

// wantByWords is asked of right steps alone.
func wantByWords(t *testing.T, c []Step) {
	t.Helper()
	want, deep := api.OK, 0
	if len(c) > 24 {
		want = api.ErrArg
	} else if !wellByWords(c, 0, len(c)) {
		want = api.ErrForm
	} else if deep = deepByWords(c, 0, len(c)); deep > 6 {
		want, deep = api.ErrBig, 0
	}
	if e, d := Check(c), Deep(c); e != want || d != deep {
		t.Fatalf("%v: %d, %d deep, want %d, %d deep", c, e, d, want, deep)
	}
}

// P8.1: every code of up to 6 steps from a small set.
func TestEveryShortCode(t *testing.T) {
	set := steps(retry, skip(1), skip(2), skip(4), either(1, 1), either(1, 3), either(2, 1), either(3, 1))
	var grow func(c []Step)
	grow = func(c []Step) {
		wantByWords(t, c)
		if len(c) < 6 {
			for _, s := range set {
				grow(append(c, s))
			}
		}
	}
	grow(make([]Step, 0, 6))
}

// P8.1: codes that are well, too deep, or not well, with any one number of a step
// changed, a step left out, and one put in.
func TestNeighbours(t *testing.T) {
	all := slices.Concat(notWell(), tooDeep())
	for _, c := range rightCodes() {
		all = append(all, c.code)
	}
	for _, c := range all {
		for place, s := range c {
			for n := 1; n <= 24; n++ {
				if s.Do == Skip || s.Do == Either {
					wantByWords(t, with(c, place, Step{Do: s.Do, A: n, B: s.B, Term: s.Term}))
				}
				if s.Do == Either {
					wantByWords(t, with(c, place, either(s.A, n)))
				}
				wantByWords(t, with(c, place, skip(n)))
				wantByWords(t, with(c, place, either(n, 1)))
				wantByWords(t, slices.Insert(slices.Clone(c), place, either(1, n)))
			}
			wantByWords(t, slices.Delete(slices.Clone(c), place, place+1))
			wantByWords(t, slices.Insert(slices.Clone(c), place, retry))
			wantByWords(t, with(c, place, retry))
		}
	}
}

// P8.2: a code that is well is put into another one's Either, as one of its parts
// or among others in it, as long as there is room for it.
func TestCodesPutIntoEithers(t *testing.T) {
	for _, x := range rightCodes() {
		if len(x.code) == 0 {
			continue
		}
		for _, c := range [][]Step{
			choose(x.code, retries(1)),
			choose(retries(1), x.code),
			choose(x.code, x.code),
			choose(x.code, steps(skip(1), retry)),
			choose(append(steps(set(1)), x.code...), retries(1)),
			choose(append(slices.Clone(x.code), fail(1)), retries(1)),
			slices.Concat(steps(set(1)), choose(retries(2), x.code), retries(2)),
		} {
			switch {
			case len(c) > 24:
				wantError(t, c, api.ErrArg)
			case x.deep == 6:
				wantError(t, c, api.ErrBig)
			default:
				wantDeep(t, c, x.deep+1)
				if got, want := Cells(c), Cells(x.code); !slices.Equal(got, want) {
					t.Errorf("Cells(%v) = %v, want %v", c, got, want)
				}
			}
		}
	}
}

// P8.2: each code is put into each other one's Either, in each part of it.
func TestCodesPutIntoEachOther(t *testing.T) {
	codes := rightCodes()
	for _, x := range codes {
		for _, y := range codes {
			if len(x.code) == 0 || len(y.code) == 0 {
				continue
			}
			c := choose(x.code, y.code)
			deep := 1 + max(x.deep, y.deep)
			switch {
			case len(c) > 24:
				wantError(t, c, api.ErrArg)
			case deep > 6:
				wantError(t, c, api.ErrBig)
			default:
				wantDeep(t, c, deep)
				want := append(Cells(x.code), Cells(y.code)...)
				slices.Sort(want)
				if got := Cells(c); !slices.Equal(got, slices.Compact(want)) {
					t.Errorf("Cells(%v) = %v, want %v", c, got, want)
				}
			}
		}
	}
}

func sameStep(s, other Step) bool {
	return s.Do == other.Do && s.A == other.A && s.B == other.B && slices.Equal(s.Term, other.Term)
}

func copyOf(c []Step) []Step {
	c = slices.Clone(c)
	for i := range c {
		c[i].Term = slices.Clone(c[i].Term)
	}
	return c
}

// R1: no call changes what it was given, nor what stands in memory behind it.
func TestNothingIsChanged(t *testing.T) {
	falling := steps(load(1, 9), store(3), load(2, 9), store(1))
	all := slices.Concat(notWell(), tooDeep(), [][]Step{falling, choose(falling, falling), retries(40)})
	for _, x := range rightCodes() {
		all = append(all, x.code)
	}
	for _, s := range wrongSteps() {
		all = append(all, append(slices.Clone(falling), s))
	}
	for _, c := range all {
		long := append(copyOf(c), steps(store(7), load(3, 2), retry)...)
		was := copyOf(long)
		given := long[:len(c)]
		Check(given)
		Deep(given)
		Cells(given)
		if !slices.EqualFunc(long, was, sameStep) {
			t.Errorf("%v has become %v", brief(was), brief(long))
		}
	}
}

// R1, R4: what is answered is new each time, and the same each time.
func TestAnswersAreNew(t *testing.T) {
	c := steps(load(1, 9), store(3), load(2, 9), store(1))
	want := []int{1, 3, 9}
	first := Cells(c)
	next := Cells(c)
	first[0], first[1], first[2] = 50, 51, 52
	_ = append(first[:1], 60, 61, 62, 63)
	if third := Cells(c); !slices.Equal(next, want) || !slices.Equal(third, want) {
		t.Errorf("Cells, behind a change of its answer: %v, %v", next, third)
	}
	for range 3 {
		wantDeep(t, choose(c, c), 1)
		wantError(t, append(steps(skip(5)), c...), api.ErrForm)
	}
}
