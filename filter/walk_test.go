package filter

import (
	"math"
	"slices"
	"testing"

	"handshaker/api"
	"handshaker/sleep"
	"handshaker/term"
)

// picks tell numbers below a bound, always the same ones.
type picks uint64

func (p *picks) below(n int) int {
	*p = *p*6364136223846793005 + 1442695040888963407
	return int(uint64(*p)>>33) % n
}

// isHeap, isSleeper and isList are what is asked of them, by the chapters' words taken
// one by one, without a call of another layer.
func isHeap(h []api.Cell) bool {
	right := 1 <= len(h) && len(h) <= 64
	for _, c := range h {
		right = right && isValue(c.Value) && (c.Live || c.Value == 0)
	}
	return right
}

func isValue(n int) bool { return -1<<31 <= n && n <= 1<<31-1 }

func isSleeper(s sleep.Sleeper) bool {
	right := 1 <= s.Who && s.Who <= 8 && 1 <= s.Mode && s.Mode <= 3 && 0 <= s.Until && s.Until <= 1<<31-1 && len(s.Watch) <= 24
	named, watched := map[int]int{}, map[int]int{}
	for place, w := range s.Watch {
		right = right && 0 <= w.Cell && w.Cell <= 63 && isValue(w.Value) && (place == 0 || s.Watch[place-1].Cell < w.Cell)
		watched[w.Cell] = 1
	}
	if s.Mode != 3 {
		return right && len(s.Term) == 0
	}
	for _, o := range s.Term {
		if o.Kind == 2 {
			named[o.N] = 1
		}
	}
	right = right && len(named) == len(watched) && standsWell(s.Term)
	for n := range named {
		right = right && watched[n] == 1
	}
	return right
}

// standsWell is layer 7's, but that no register may be named.
func standsWell(t []term.Op) bool {
	pile, right := 0, 1 <= len(t) && len(t) <= 12
	for _, o := range t {
		switch {
		case o.Kind == 1:
			right = right && isValue(o.N)
			pile++
		case o.Kind == 2:
			right = right && 0 <= o.N && o.N <= 63
			pile++
		case 4 <= o.Kind && o.Kind <= 10:
			right = right && o.N == 0 && pile >= 2
			pile--
		default:
			right = right && o.Kind == 11 && o.N == 0 && pile >= 1
		}
	}
	return right && pile == 1
}

func isList(l []sleep.Sleeper) bool {
	right := true
	for place, s := range l {
		right = right && isSleeper(s) && (place == 0 || l[place-1].Who < s.Who)
	}
	return right
}

// mayGoOn is what the chapter says of one sleeper.
func mayGoOn(s sleep.Sleeper, h []api.Cell) bool {
	if !isSleeper(s) || !isHeap(h) {
		return false
	}
	if s.Mode == 1 {
		return true
	}
	if s.Mode == 3 {
		n, without := told(s.Term, h)
		return without && n != 0
	}
	still := 0
	for _, w := range s.Watch {
		for number, c := range h {
			if number == w.Cell && c.Live && c.Value == w.Value {
				still++
			}
		}
	}
	return still < len(s.Watch)
}

// told is what the whole of a term tells, that stands well, and whether each cell that
// it names is live; it begins at the end of it.
func told(t []term.Op, h []api.Cell) (int, bool) {
	n, rest, without := toldLast(t, h)
	return n, without && len(rest) == 0
}

func toldLast(t []term.Op, h []api.Cell) (int, []term.Op, bool) {
	o, rest := t[len(t)-1], t[:len(t)-1]
	switch o.Kind {
	case 1:
		return o.N, rest, true
	case 2:
		if o.N >= len(h) || !h[o.N].Live {
			return 0, rest, false
		}
		return h[o.N].Value, rest, true
	}
	b, rest, without := toldLast(rest, h)
	if o.Kind == 11 {
		return truth(b == 0), rest, without
	}
	a, rest, too := toldLast(rest, h)
	return ofTwo(o.Kind, a, b), rest, without && too
}

func ofTwo(kind, a, b int) int {
	return []int{round(a + b), round(a - b), round(a * b), truth(a == b), truth(a < b), truth(a != 0 && b != 0), truth(a != 0 || b != 0)}[kind-4]
}

func truth(b bool) int {
	if b {
		return 1
	}
	return 0
}

// round goes round, where a number is no value.
func round(n int) int {
	n %= turn
	if n > greatest {
		n -= turn
	}
	if n < least {
		n += turn
	}
	return n
}

// wokenAsTold is what the chapter says of all who sleep.
func wokenAsTold(l []sleep.Sleeper, h []api.Cell, w []api.Write) []int {
	var whos []int
	if !isList(l) || !isHeap(h) {
		return nil
	}
	for _, s := range l {
		count := 0
		for _, watched := range s.Watch {
			for _, written := range w {
				count += truth(watched.Cell == written.Cell)
			}
		}
		if count > 0 && mayGoOn(s, h) {
			whos = append(whos, s.Who)
		}
	}
	return whos
}

func lieAsTold(l []sleep.Sleeper, s sleep.Sleeper, h []api.Cell) api.Errno {
	switch {
	case !isHeap(h), !isList(l), !isSleeper(s):
		return 1
	case slices.ContainsFunc(l, func(one sleep.Sleeper) bool { return one.Who == s.Who }):
		return 9
	case s.Mode != 1 && mayGoOn(s, h):
		return 9
	}
	return 0
}

// sleeper is any one, that is right more often than not; of the lower cells mostly.
func (p *picks) sleeper() sleep.Sleeper {
	s := sleep.Sleeper{Who: 1 + p.below(8), Mode: 1 + p.below(3), Until: p.below(3) * p.below(end)}
	if s.Mode == sleep.Holds {
		s = until(s.Until, holds(s.Who, p.term()...))
	} else {
		for n := p.below(3); n < 64 && len(s.Watch) < p.below(6); n += 1 + p.below(3) {
			s.Watch = append(s.Watch, put(n, p.value()))
		}
	}
	switch p.below(60) {
	case 0:
		s.Who = []int{0, 9, -1}[p.below(3)]
	case 1:
		s.Mode = p.below(5)
	case 2:
		s.Until = []int{-1, end + 1, end}[p.below(3)]
	case 3:
		s.Watch = append(s.Watch, put(p.below(66)-1, 1))
	case 4:
		s.Term = append(s.Term, []term.Op{num(4), op(term.Not), op(term.Plus), reg(1), cell(3)}[p.below(5)])
	}
	return s
}

// value is one of few, so that many are equal.
func (p *picks) value() int {
	return []int{0, 0, 1, 1, -1, 2, least, greatest}[p.below(8)]
}

func (p *picks) cell() int {
	if p.below(12) == 0 {
		return p.below(64)
	}
	return p.below(6)
}

// term is one that stands well.
func (p *picks) term() []term.Op {
	t, pile := ops(cell(p.cell())), 1
	for len(t)+pile < 1+p.below(12) {
		switch {
		case p.below(4) == 0:
			t = append(t, op(term.Not))
		case pile == 1 || p.below(2) == 0:
			t, pile = append(t, []term.Op{num(p.value()), cell(p.cell())}[p.below(2)]), pile+1
		default:
			t, pile = append(t, op(4+p.below(7))), pile-1
		}
	}
	for ; pile > 1; pile-- {
		t = append(t, op(4+p.below(7)))
	}
	return t
}

// heap is one of few cells mostly, of which few are free.
func (p *picks) heap() []api.Cell {
	h := make([]api.Cell, []int{1, 2, 6, 6, 8, 64}[p.below(6)])
	for number := range h {
		if p.below(8) > 0 {
			h[number] = live(p.value())
		}
	}
	return h
}

// P16.1: each heap of up to three cells of a few values, beside each who watches some
// values of Other.
func TestMayOfEachSmallOther(t *testing.T) {
	var watches [][]api.Write
	values := numbers(0, 1, -1)
	var each func(from int, w []api.Write)
	each = func(from int, w []api.Write) {
		watches = append(watches, w)
		for n := from; n < 4; n++ {
			for _, value := range values {
				each(n+1, append(slices.Clone(w), put(n, value)))
			}
		}
	}
	each(0, nil)
	met := map[bool]int{}
	for _, h := range smallHeaps() {
		for place, w := range watches {
			s := otherOf(1+place%8, w...)
			want := mayGoOn(s, h)
			wantMay(t, s, h, want)
			met[want]++
		}
	}
	if len(watches) != 256 || met[true] < 200 || met[false] < 200 {
		t.Errorf("%d watches, %v", len(watches), met)
	}
}

// smallHeaps are of up to three cells, each of them free or of a few values.
func smallHeaps() [][]api.Cell {
	var all [][]api.Cell
	kinds := cells(free, live(0), live(1), live(-1), api.Cell{Value: 1})
	for _, first := range kinds {
		all = append(all, cells(first))
		for _, second := range kinds {
			all = append(all, cells(first, second))
			for _, third := range kinds {
				all = append(all, cells(first, second, third))
			}
		}
	}
	return all
}

// P16.1: each term of up to four operations of some, beside each small heap.
func TestMayOfEachSmallTerm(t *testing.T) {
	kinds := ops(num(1), num(0), num(-1), cell(0), cell(1), cell(3), reg(0), op(term.Plus), op(term.Below), op(term.Either), op(term.Not))
	met := map[bool]int{}
	var each func(t []term.Op, do func(o []term.Op))
	each = func(o []term.Op, do func(o []term.Op)) {
		do(o)
		for _, kind := range kinds {
			if len(o) < 4 {
				each(append(slices.Clone(o), kind), do)
			}
		}
	}
	all := smallHeaps()
	each(nil, func(o []term.Op) {
		s := holds(5, o...)
		if !isSleeper(s) {
			wantMay(t, s, all[len(all)-2], false)
			return
		}
		for place := len(o); place < len(all); place += 5 + len(o) {
			want := mayGoOn(s, all[place])
			wantMay(t, s, all[place], want)
			met[want]++
		}
	})
	if met[true] < 1000 || met[false] < 1000 {
		t.Errorf("%v", met)
	}
}

// P16.1, P16.2: any list, sleeper, heap and writes, right ones and wrong ones, beside
// the chapter's words.
func TestAnyOfAll(t *testing.T) {
	p, met, none := picks(5), map[string]int{}, wrongHeaps()
	for range 30000 {
		var l []sleep.Sleeper
		for who := 1; who <= 8; who++ {
			if s := p.sleeper(); p.below(3) > 0 && (isSleeper(s) || p.below(4) == 0) {
				l = append(l, as(who, s))
			}
		}
		if p.below(20) == 0 && len(l) > 0 {
			place := p.below(len(l))
			l[place].Who = p.below(10)
		}
		h, s := p.heap(), p.sleeper()
		switch p.below(12) {
		case 0:
			h = none[p.below(len(none))]
		case 1:
			h[p.below(len(h))] = api.Cell{Live: p.below(2) == 0, Value: []int{1, greatest + 1, math.MinInt}[p.below(3)]}
		}
		var w []api.Write
		for range p.below(4) {
			w = append(w, put(p.cell(), p.value()))
		}
		wantMay(t, s, h, mayGoOn(s, h))
		wantWoken(t, l, h, w, wokenAsTold(l, h, w)...)
		wantE := lieAsTold(l, s, h)
		wantLie(t, l, s, h, wantE)
		met[[]string{"ok", "arg", 9: "wait"}[wantE]]++
		met[[]string{"heap", "no heap"}[truth(!isHeap(h))]]++
		met[[]string{"list", "no list"}[truth(!isList(l))]]++
		met[[]string{"woken", "nobody"}[truth(len(wokenAsTold(l, h, w)) == 0)]]++
	}
	for _, kind := range []string{"ok", "arg", "wait", "heap", "no heap", "list", "no list", "woken", "nobody"} {
		if met[kind] < 1000 {
			t.Errorf("%s came %d times", kind, met[kind])
		}
	}
}

// P16.1: whoever is woken by all writes is woken by one of them, behind the others; and
// they are as many, in whatever order the writes stand.
func TestWokenByOneWriteBehindTheOther(t *testing.T) {
	p := picks(11)
	for range 3000 {
		var l []sleep.Sleeper
		for who := 1; who <= 8; who++ {
			if s := as(who, p.sleeper()); isSleeper(s) {
				l = append(l, s)
			}
		}
		h := p.heap()
		var w []api.Write
		for range p.below(5) {
			w = append(w, put(p.cell(), p.value()))
		}
		want, rest := Woken(l, h, w...), l
		var one, all []int
		for _, written := range w {
			rest, one = Wake(rest, h, written)
			all = append(all, one...)
		}
		slices.Sort(all)
		if !slices.Equal(all, want) || !sameList(rest, without(l, want...)) {
			t.Fatalf("of %v by %v, behind %v: %v and not %v", l, h, w, all, want)
		}
		slices.Reverse(w)
		wantWoken(t, l, h, w, want...)
	}
}

// P16.3: who is of Other or Holds, and lies down, and is looked at behind each write of
// what they watch, sleeps just as long as they may not go on.
func TestTheySleepJustAsLong(t *testing.T) {
	met := map[string]int{}
	for seed := range 1200 {
		p := picks(seed)
		h := p.heap()
		var l []sleep.Sleeper
		for range 60 {
			if p.below(3) == 0 {
				l = laid(t, l, p.looker(h), h, met)
				continue
			}
			var w []api.Write
			h, w = p.written(h)
			was := l
			var whos []int
			l, whos = Wake(was, h, w...)
			wantLeft(t, was, l, whos, h, w, met)
		}
	}
	for _, kind := range []string{"lain 2", "lain 3", "kept 2", "kept 3", "woken 1", "woken 2", "woken 3"} {
		if met[kind] < 500 {
			t.Errorf("%s came %d times", kind, met[kind])
		}
	}
}

// looker is one who mostly watches what stands there.
func (p *picks) looker(h []api.Cell) sleep.Sleeper {
	s := p.sleeper()
	if s.Mode != sleep.Other || p.below(4) == 0 {
		return s
	}
	for place, w := range s.Watch {
		if 0 <= w.Cell && w.Cell < len(h) {
			s.Watch[place].Value = h[w.Cell].Value
		}
	}
	return s
}

// laid is who sleeps, behind one who would.
func laid(t *testing.T, l []sleep.Sleeper, s sleep.Sleeper, h []api.Cell, met map[string]int) []sleep.Sleeper {
	t.Helper()
	longer, e := Lie(l, s, h)
	lies := slices.ContainsFunc(longer, func(one sleep.Sleeper) bool { return sameSleeper(one, s) })
	if e == api.OK && (!lies || s.Mode != sleep.Any && mayGoOn(s, h)) {
		t.Fatalf("%v lay down by %v: %v", s, h, longer)
	}
	if e == api.ErrWait && !slices.ContainsFunc(l, func(one sleep.Sleeper) bool { return one.Who == s.Who }) && (s.Mode == sleep.Any || !mayGoOn(s, h)) {
		t.Fatalf("%v did not lie down by %v", s, h)
	}
	if e == api.OK {
		met["lain "+string(rune('0'+s.Mode))]++
	}
	return longer
}

// written is a heap behind some writes that come to be, what is freed and comes anew
// among them, and what has been written.
func (p *picks) written(h []api.Cell) ([]api.Cell, []api.Write) {
	var w []api.Write
	h = slices.Clone(h)
	for range 1 + p.below(3) {
		n := p.cell() % len(h)
		h[n] = live(p.value())
		if p.below(10) == 0 {
			h[n] = free
		}
		w = append(w, put(n, h[n].Value))
	}
	return h, w
}

// wantLeft asks that all who sleep on may not go on, and that all who are woken may.
func wantLeft(t *testing.T, was, l []sleep.Sleeper, whos []int, h []api.Cell, w []api.Write, met map[string]int) {
	t.Helper()
	if !sameList(l, without(was, whos...)) {
		t.Fatalf("%v woken of %v: %v are left", whos, was, l)
	}
	for _, s := range was {
		woken := slices.Contains(whos, s.Who)
		told := slices.ContainsFunc(s.Watch, func(one api.Write) bool {
			return slices.ContainsFunc(w, func(written api.Write) bool { return written.Cell == one.Cell })
		})
		// Who watches nothing is never told of anything, as one of Any; and who of
		// Other or Holds has lain down with nothing to watch may never go on.
		if s.Mode == sleep.Any && woken != told || s.Mode != sleep.Any && woken != mayGoOn(s, h) {
			t.Fatalf("%v woken, %v, by %v behind %v", s, woken, h, w)
		}
		met[[]string{"kept ", "woken "}[truth(woken)]+string(rune('0'+s.Mode))]++
	}
}
