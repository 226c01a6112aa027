package attempt

import (
	"math"
	"slices"
	"testing"

	"handshaker/api"
	"handshaker/code"
	"handshaker/model"
	"handshaker/term"
	"handshaker/writes"
)

// world is what the step of this number, from 0 on, finds.
type world func(n int) ([]api.Cell, []api.Record)

func always(h []api.Cell, r []api.Record) world {
	return func(int) ([]api.Cell, []api.Record) { return h, r }
}

// walk is how a try goes, told part in part, with nobody who asks where a part ends:
// what stands ahead of each step, and at the end.
type walk struct {
	c     []code.Step
	found world
	// now has no Log's Marks: an Either's first part that is run has its own.
	now   Try
	marks []int
	rests []Try
}

func walked(c []code.Step, who, snap int, found world) []Try {
	w := &walk{c: c, found: found, now: Try{Who: who, Snap: snap, Regs: make([]int, 8)}}
	if w.part(0, len(c)) == model.Done {
		w.rest(len(c), model.Done, 0)
	}
	return w.rests
}

func (w *walk) rest(pc, kind, why int) int {
	x := tryCopy(w.now)
	x.Pc, x.Kind, x.Why, x.Log.Marks = pc, kind, why, slices.Clone(w.marks)
	w.rests = append(w.rests, x)
	return kind
}

// part runs the steps from pc on up to end. What ends it, but a Retry of an Either
// around it, ends all.
func (w *walk) part(pc, end int) int {
	for pc < end {
		h, r := w.found(len(w.rests))
		w.rest(pc, Runs, 0)
		s, told := w.c[pc], 0
		if len(s.Term) > 0 {
			told, _ = term.Eval(s.Term, live(0), w.now.Regs)
		}
		next := pc + 1
		switch s.Do {
		case code.Load:
			if !isLive(h, s.B) {
				return w.rest(pc, model.Bad, s.B)
			}
			value, fresh := w.value(s.B, h, r)
			if !fresh {
				return w.rest(pc, Stale, 0)
			}
			w.now.Regs[s.A] = value
		case code.Set:
			w.now.Regs[s.A] = told
		case code.Store:
			if !isLive(h, s.A) {
				return w.rest(pc, model.Bad, s.A)
			}
			w.now.Log.List = append(w.now.Log.List, put(s.A, told))
		case code.Skip:
			if told == 0 {
				next += s.A
			}
		case code.Retry:
			if len(w.marks) == 0 {
				w.rest(pc, model.Again, 0)
			}
			return model.Again
		case code.Fail:
			return w.rest(pc, model.Failed, s.A)
		case code.Either:
			next += s.A + s.B
			if kind := w.either(pc, s); kind != model.Done {
				return kind
			}
		}
		pc = next
	}
	return model.Done
}

func (w *walk) either(pc int, s code.Step) int {
	was, marks := tryCopy(w.now), slices.Clone(w.marks)
	mid := pc + 1 + s.A
	w.now.Frames = append(w.now.Frames, frame(mid, mid+s.B, len(was.Path), was.Regs))
	w.now.Path = append(w.now.Path, 1)
	w.marks = append(w.marks, len(was.Log.List))
	kind := w.part(pc+1, mid)
	if kind == model.Done || kind == model.Again {
		w.now.Frames, w.marks = was.Frames, marks
	}
	if kind == model.Again {
		was.Reads = w.now.Reads
		w.now = tryCopy(was)
		w.now.Path = append(w.now.Path, 2)
		kind = w.part(mid, mid+s.B)
	}
	return kind
}

func (w *walk) value(cell int, h []api.Cell, r []api.Record) (int, bool) {
	for i := len(w.now.Log.List) - 1; i >= 0; i-- {
		if w.now.Log.List[i].Cell == cell {
			return w.now.Log.List[i].Value, true
		}
	}
	for _, x := range w.now.Reads {
		if x.Cell == cell {
			return x.Value, true
		}
	}
	if x := r[cell%len(r)]; x.Owner == 0 && x.Version <= w.now.Snap {
		w.now.Reads = append(w.now.Reads, has(cell, x.Version, h[cell].Value))
		return h[cell].Value, true
	}
	return 0, false
}

func isLive(h []api.Cell, cell int) bool { return cell < len(h) && h[cell].Live }

// wantWalk asks that each step comes to what is told part in part. It answers how
// the try ends; or 0, if it is no code.
func wantWalk(t *testing.T, c []code.Step, found world) int {
	t.Helper()
	if code.Check(c) != api.OK {
		return 0
	}
	rests := walked(c, who, snap, found)
	x := begun(t, c)
	for n, want := range rests {
		if !sameTry(x, want) {
			t.Fatalf("behind %d steps of %v: %+v, want %+v", n, c, x, want)
		}
		if !atRest(x, len(c)) {
			t.Fatalf("behind %d steps of %v: %+v does not rest", n, c, x)
		}
		h, r := found(n)
		y, e := Step(x, c, h, r)
		if last := n+1 == len(rests); last != (e == api.ErrArg) || last && !sameTry(y, x) || !last && e != api.OK {
			t.Fatalf("step %d of %d of %v: %+v, %d", n, len(rests)-1, c, y, e)
		}
		x = y
	}
	return x.Kind
}

// atRest is the chapter's word of a try that rests.
func atRest(x Try, end int) bool {
	for _, f := range x.Frames {
		if f.Mid == x.Pc {
			return false
		}
	}
	return len(x.Frames) == len(x.Log.Marks) && len(x.Regs) == 8 && writes.Right(x.Log) && (x.Kind != Runs || x.Pc != end)
}

// wantRun asks that Run comes to the last of what is told part in part, and that it
// and Out are as the model's Run, where the records are of no matter.
func wantRun(t *testing.T, c []code.Step, h []api.Cell, r []api.Record) {
	t.Helper()
	if code.Check(c) != api.OK {
		return
	}
	rests := walked(c, who, snap, always(h, r))
	want := rests[len(rests)-1]
	x := begun(t, c)
	y, n, e := Run(x, c, h, r)
	if e != api.OK || n != len(rests)-1 || !sameTry(y, want) || !sameTry(x, rests[0]) {
		t.Fatalf("Run of %v on %v, %v: %+v, %d, %d, want %+v, %d", c, brief(h), r, y, n, e, want, len(rests)-1)
	}
	if noMatter(r) {
		wantAsModel(t, c, h, y)
	}
}

func wantAsModel(t *testing.T, c []code.Step, h []api.Cell, x Try) {
	t.Helper()
	want, _, e := model.Run(c, h)
	if o := Out(x); e != api.OK || !sameOut(o, want) {
		t.Fatalf("Out of %+v, of %v on %v: %+v, want %+v", x, c, brief(h), o, want)
	}
}

// noMatter: nobody holds anything, and no Version is above snap.
func noMatter(r []api.Record) bool {
	return !slices.ContainsFunc(r, func(x api.Record) bool { return x.Owner != 0 || x.Version > snap })
}

// shifting is another heap and another table at each step: cells come and go, and
// so does who holds records, of versions around snap.
func shifting(by int) world {
	return func(n int) ([]api.Cell, []api.Record) {
		h := live(10*n+by, n-by, 7, n%3, 5*n)[:5-(n+by)%2]
		if by == 3 && n%4 == 3 {
			h[2] = api.Cell{}
		}
		if by == 2 {
			return h, table(4+n, n%7, 6)[:1+n%3]
		}
		if by == 3 {
			return h, []api.Record{{Version: snap, Owner: n / 5}, {Version: n, Owner: 0}}
		}
		return h, table(n%5, n%7, 6)[:1+n%3]
	}
}

// P11.2, P11.3, P11.4: every code of up to 5 steps from a small set.
func TestEveryShortCode(t *testing.T) {
	set := steps(load(1, 0), store(0, plus(1, 1)), load(1, 1), load(0, 2), skip(1, reg(1)), skip(2, num(0)), retry, fail(3), either(1, 1), either(1, 2), either(2, 1))
	h := append(live(5, 0), api.Cell{})
	tables := [][]api.Record{table(6), table(2, 5, 6), table(2, 7), {{Version: 3, Owner: who}, {Version: 1}}}
	ends := map[int]int{}
	var grow func(c []code.Step)
	grow = func(c []code.Step) {
		for by := range 4 {
			ends[wantWalk(t, c, shifting(by))]++
		}
		for _, r := range tables {
			wantRun(t, c, h, r)
		}
		if len(c) < 5 {
			for _, s := range set {
				grow(append(c, s))
			}
		}
	}
	grow(make([]code.Step, 0, 5))
	for kind := model.Done; kind <= Stale; kind++ {
		if ends[kind] < 1000 {
			t.Errorf("%d tries end as %d", ends[kind], kind)
		}
	}
}

// P11.2, P11.4: every code of 6 to 7 steps that ask for Eithers and Skips alone.
func TestEveryCodeOfEithersAndSkips(t *testing.T) {
	set := steps(store(1, plus(0, 1)), skip(1, num(0)), skip(2, num(0)), retry, either(1, 1), either(2, 2), either(3, 1))
	h, r := live(5, 6), table(6)
	var grow func(c []code.Step)
	grow = func(c []code.Step) {
		if len(c) == 6 || len(c) == 7 && c[0].Do == code.Either {
			wantWalk(t, c, always(h, r))
			wantRun(t, c, h, r)
		}
		if len(c) < 7 {
			for _, s := range set {
				grow(append(c, s))
			}
		}
	}
	grow(make([]code.Step, 0, 7))
}

// picks tell numbers below a bound, always the same ones.
type picks uint64

func (p *picks) below(n int) int {
	*p = *p*6364136223846793005 + 1442695040888963407
	return int(uint64(*p)>>33) % n
}

// grown is a part of up to n steps, with Eithers up to deep in one another.
func grown(p *picks, n, deep int) []code.Step {
	var c []code.Step
	for len(c) < n {
		left := n - len(c)
		r, cell := p.below(8), p.below(8)
		switch kind := p.below(20); {
		case kind < 5:
			c = append(c, load(r, cell%7))
		case kind < 8:
			c = append(c, set(r, plus(p.below(8), p.below(5)-2)))
		case kind < 12:
			c = append(c, store(cell%6, plus(r, p.below(7)-3)))
		case kind < 14 && left > 1:
			c = append(c, skip(1+p.below(min(left-1, 6)), plus(r, p.below(3)-1)))
		case kind == 14 && p.below(2) == 0:
			c = append(c, retry)
		case kind == 15 && p.below(6) == 0:
			c = append(c, fail(p.below(256)))
		case kind > 15 && left > 2 && deep > 0:
			first := grown(p, 1+p.below(left-2), deep-1)
			if p.below(2) == 0 {
				first[len(first)-1] = retry
			}
			next := grown(p, 1+p.below(left-1-len(first)), deep-1)
			c = append(c, choose(first, next)...)
		}
	}
	return c
}

// heapOf is of 7 cells with small values, of which 4 and 6 may not be live.
func heapOf(p *picks) []api.Cell {
	h := full()[:7]
	for cell := range h {
		h[cell].Value = p.below(5) - 2
		if cell == 4 && p.below(8) == 0 || cell == 6 && p.below(2) == 0 {
			h[cell] = api.Cell{}
		}
	}
	return h
}

// tableOf is of up to 16 records; if hard is above 0, one of so many is held, and
// one is newer than snap.
func tableOf(p *picks, hard int) []api.Record {
	var r []api.Record
	for range 1 + p.below(16) {
		x := api.Record{Version: p.below(snap + 1)}
		if hard > 0 && p.below(hard) == 0 {
			x.Owner = 1 + p.below(8)
		}
		if hard > 0 && p.below(hard) == 0 {
			x.Version = snap + 1 + p.below(3)
		}
		r = append(r, x)
	}
	return r
}

// P11.2 to P11.4: long codes, of all that there is, on one heap and one table, and
// on another one at each step.
func TestLongCodes(t *testing.T) {
	p := picks(11)
	var ends [6]int
	for range 20000 {
		c := grown(&p, 8+p.below(17), 6)
		wantRun(t, c, heapOf(&p), tableOf(&p, 0))
		wantRun(t, c, heapOf(&p), tableOf(&p, 20))
		seed := p
		ends[wantWalk(t, c, func(n int) ([]api.Cell, []api.Record) {
			q := seed + picks(n)*977
			q.below(2)
			return heapOf(&q), tableOf(&q, 20)
		})]++
	}
	for kind := model.Done; kind <= Stale; kind++ {
		if ends[kind] < 500 {
			t.Errorf("%d tries end as %d", ends[kind], kind)
		}
	}
	if ends[0] > 15000 {
		t.Errorf("%d are no codes", ends[0])
	}
}

// P11.3: Run goes on from wherever a try is, and counts what is left.
func TestRunFromTheMiddle(t *testing.T) {
	h, r := usual(), free()
	codes := append(rightCodes(), busy())
	for _, c := range endings() {
		codes = append(codes, c)
	}
	for _, c := range codes {
		rests := walked(c, who, snap, always(h, r))
		last := len(rests) - 1
		for n, x := range rests {
			y, count, e := Run(x, c, h, r)
			if e != api.OK || count != last-n || !sameTry(y, rests[last]) {
				t.Errorf("Run of %+v in %v: %+v, %d, %d, want %+v, %d", x, brief(c), y, count, e, rests[last], last-n)
			}
		}
	}
	for n := range 25 {
		c := sets(n)
		if x, count, e := Run(begun(t, c), c, h, r); e != api.OK || count != n || x.Kind != model.Done || x.Pc != n {
			t.Errorf("Run of %d steps: %+v, %d, %d", n, x, count, e)
		}
	}
}

// P11.3: of a try that runs, and of one that has ended in each way.
func TestOut(t *testing.T) {
	for kind := model.Done; kind <= Stale; kind++ {
		_, x := ends(t, kind)
		x.Reads = []api.Read{has(5, 6, 55), has(0, 4, 10), has(3, 5, -1)}
		want := model.Out{Kind: kind, Why: map[int]int{model.Failed: 77, model.Bad: 4}[kind], Seen: []int{0, 3, 5}}
		if kind == model.Done {
			want.Regs, want.Path, want.Writes = regsOf(0, 55, 0, 0, 0, 0, 2), []int{2}, []api.Write{put(3, 56)}
		}
		if o := Out(x); !sameOut(o, want) {
			t.Errorf("Out of %+v: %+v, want %+v", x, o, want)
		}
	}
	c := busy()
	for n := range 6 {
		x := after(t, n, c, usual(), free())
		want := model.Out{Seen: [][]int{nil, {5}, {5}, {5}, {0, 5}, {0, 5}}[n]}
		if o := Out(x); x.Kind != Runs || !sameOut(o, want) {
			t.Errorf("Out behind %d steps: %+v, want %+v", n, o, want)
		}
	}
	if o := Out(begun(t, nil)); !sameOut(o, model.Out{Kind: model.Done, Regs: regsOf()}) {
		t.Errorf("Out of no step: %+v", o)
	}
	d := steps(store(5, num(1)), store(0, num(2)), load(4, 3), store(5, num(3)), load(1, 2), store(3, num(4)), store(0, num(0)))
	x, n, _ := Run(begun(t, d), d, usual(), free())
	want := model.Out{Kind: model.Done, Regs: regsOf(0, 7, 0, 0, -1), Seen: []int{2, 3}, Writes: []api.Write{put(0, 0), put(3, 4), put(5, 3)}}
	if o := Out(x); n != 7 || !sameOut(o, want) {
		t.Errorf("Out of %v, behind %d steps: %+v, want %+v", d, n, o, want)
	}
}

// P11.4: every version up to Snap, at the ends of what a Snap may be.
func TestAsTheModelAtEachSnap(t *testing.T) {
	codes := append(rightCodes(), busy(), nil)
	for kind := model.Done; kind < Stale; kind++ {
		codes = append(codes, endings()[kind])
	}
	for _, s := range []int{0, 1, snap, api.MaxClock} {
		for _, r := range [][]api.Record{table(s), table(0, s), table(s/2, 0, s), slices.Repeat(table(s), 16)} {
			for w := 1; w <= 8; w++ {
				for _, c := range codes {
					x, _ := Begin(c, w, s)
					y, _, e := Run(x, c, usual(), r)
					if e != api.OK || y.Who != w || y.Snap != s {
						t.Errorf("Run of %+v: %+v, %d", x, y, e)
					}
					wantAsModel(t, c, usual(), y)
				}
			}
		}
	}
}

// P1: tries that came of no call, or of another code, end and do not panic.
func TestTriesByHand(t *testing.T) {
	numbers := []int{math.MinInt, -turn, -1, 0, 1, 2, 3, 23, 24, 25, turn, math.MaxInt}
	odd := []Try{{}, {Kind: 6}, {Kind: -1, Why: -1}, {Kind: math.MaxInt, Regs: []int{1}}, {Kind: model.Done, Path: []int{7}}}
	for _, n := range numbers {
		odd = append(odd, Try{Pc: n}, Try{Pc: n, Regs: regsOf()}, Try{Regs: slices.Repeat([]int{n}, 8)}, Try{Snap: n, Who: n, Regs: regsOf()}, Try{Kind: n, Regs: regsOf()})
		for _, m := range numbers {
			odd = append(odd, Try{Regs: regsOf(), Frames: []Frame{frame(n, m, 0, nil)}}, Try{Regs: regsOf(), Frames: []Frame{frame(0, 0, n, regsOf()), frame(1, 1, m, regsOf(n))}})
			odd = append(odd, Try{Regs: regsOf(), Path: []int{n}, Frames: slices.Repeat([]Frame{frame(n, m, 1, regsOf())}, 99)})
			odd = append(odd, Try{Regs: regsOf(), Reads: []api.Read{has(n, m, 0), has(n, 0, m)}, Log: writes.Log{List: []api.Write{put(n, m)}, Marks: []int{m, n}}})
		}
	}
	for n := range 30 {
		odd = append(odd, Try{Regs: make([]int, n)}, Try{Regs: regsOf(), Reads: make([]api.Read, n), Log: writes.Log{List: make([]api.Write, n), Marks: make([]int, n)}, Frames: make([]Frame, n)})
	}
	codes := append(rightCodes(), append(wrongCodes(), nil, busy())...)
	for _, x := range odd {
		Out(x)
		for _, c := range codes {
			wantUntouched(t, x, c, usual(), free())
		}
		wantUntouched(t, x, busy(), nil, nil)
	}
}

// wantUntouched asks no more than that Step and Run end, and that the try beside
// an error, and the one that was handed in, are as it was.
func wantUntouched(t *testing.T, x Try, c []code.Step, h []api.Cell, r []api.Record) {
	t.Helper()
	was := tryCopy(x)
	y, e := Step(x, c, h, r)
	if e != api.OK && !sameTry(y, was) {
		t.Errorf("Step of %+v in %v: %+v, %d", x, brief(c), y, e)
	}
	z, n, e := Run(x, c, h, r)
	if e != api.OK && (n != 0 || !sameTry(z, was)) {
		t.Errorf("Run of %+v in %v: %+v, %d, %d", x, brief(c), z, n, e)
	}
	if !sameTry(x, was) {
		t.Errorf("%+v has become %+v", was, x)
	}
}

// given are codes that do all that there is.
func given() [][]code.Step {
	all := [][]code.Step{busy()}
	for kind := model.Done; kind <= Stale; kind++ {
		all = append(all, endings()[kind])
	}
	p := picks(4)
	for len(all) < 60 {
		if c := grown(&p, 20, 4); code.Check(c) == api.OK && code.Deep(c) > 1 {
			all = append(all, c)
		}
	}
	return all
}

// roomy is the try with more behind the end of each of its lists.
func roomy(x Try) Try {
	x = tryCopy(x)
	for i := range x.Frames {
		x.Frames[i].Regs = append(x.Frames[i].Regs, 71, 72)[:8]
	}
	x.Regs = append(x.Regs, 73, 74)[:len(x.Regs)]
	x.Path = append(x.Path, 75, 76)[:len(x.Path)]
	x.Reads = append(x.Reads, has(77, 1, 1), has(78, 1, 1))[:len(x.Reads)]
	x.Log.List = append(x.Log.List, put(79, 1), put(80, 1))[:len(x.Log.List)]
	x.Log.Marks = append(x.Log.Marks, 81, 82)[:len(x.Log.Marks)]
	x.Frames = append(x.Frames, frame(83, 1, 1, []int{84}), frame(85, 1, 1, []int{86}))[:len(x.Frames)]
	return x
}

// behind is a try with its lists up to the ends of their memory.
func behind(x Try) Try {
	x.Regs, x.Path, x.Reads = x.Regs[:cap(x.Regs)], x.Path[:cap(x.Path)], x.Reads[:cap(x.Reads)]
	x.Log.List, x.Log.Marks = x.Log.List[:cap(x.Log.List)], x.Log.Marks[:cap(x.Log.Marks)]
	x.Frames = slices.Clone(x.Frames[:cap(x.Frames)])
	for i := range x.Frames {
		x.Frames[i].Regs = x.Frames[i].Regs[:cap(x.Frames[i].Regs)]
	}
	return x
}

// R1: no call changes what it was given, nor what stands in memory behind it.
func TestGivenStaysAsItWas(t *testing.T) {
	for _, c := range given() {
		longCode := append(codeCopy(c), store(7, num(8)), retry)
		wasCode := codeCopy(longCode)
		for _, rest := range walked(c, who, snap, always(usual(), free())) {
			for _, h := range [][]api.Cell{usual(), full(), nil} {
				for _, r := range [][]api.Record{free(), table(9), nil} {
					longHeap, longTable := append(slices.Clone(h), live(70, 71)...), append(slices.Clone(r), table(72, 73)...)
					wasHeap, wasTable := slices.Clone(longHeap), slices.Clone(longTable)
					x := roomy(rest)
					was := tryCopy(behind(x))
					Step(x, longCode[:len(c)], longHeap[:len(h)], longTable[:len(r)])
					Run(x, longCode[:len(c)], longHeap[:len(h)], longTable[:len(r)])
					Out(x)
					Begin(longCode[:len(c)], who, snap)
					if !sameTry(x, rest) || !sameTry(behind(x), was) {
						t.Errorf("the try %+v has become %+v", was, behind(x))
					}
					if !slices.EqualFunc(longCode, wasCode, sameStep) {
						t.Errorf("the code %v has become %v", wasCode, longCode)
					}
					if !slices.Equal(longHeap, wasHeap) || !slices.Equal(longTable, wasTable) {
						t.Errorf("%v, %v have become %v, %v", brief(wasHeap), wasTable, brief(longHeap), longTable)
					}
				}
			}
		}
	}
}

// R1: two tries that come of one do not tell of each other.
func TestTwoOfOne(t *testing.T) {
	for _, c := range given() {
		for _, rest := range walked(c, who, snap, always(usual(), free())) {
			x := roomy(rest)
			one, e := Step(x, c, usual(), free())
			if e != api.OK {
				continue
			}
			was := tryCopy(one)
			two, _ := Step(x, c, full(), table(1))
			three, _, _ := Run(one, c, full(), table(1))
			wasTwo, wasThree := tryCopy(two), tryCopy(three)
			Step(one, c, full(), table(2))
			Run(x, c, full(), table(3))
			if !sameTry(one, was) || !sameTry(two, wasTwo) || !sameTry(three, wasThree) {
				t.Errorf("of %+v in %v: %+v, %+v, %+v", x, c, one, two, three)
			}
		}
	}
}

// spoil writes 99 into a list, and behind it.
func spoil(l []int) {
	for i := range l {
		l[i] = 99
	}
	_ = append(l, 98, 98, 98)
}

// spoilOne spoils one list of a try, and sets it as it was then. It tells whether
// there is one of that number.
func spoilOne(x *Try, which int) bool {
	was := tryCopy(*x)
	switch which {
	case 0:
		spoil(x.Regs)
		x.Regs = was.Regs
	case 1:
		spoil(x.Path)
		x.Path = was.Path
	case 2:
		spoil(x.Log.Marks)
		x.Log.Marks = was.Log.Marks
	case 3:
		clear(x.Reads)
		_ = append(x.Reads, has(9, 9, 9), has(9, 9, 9))
		x.Reads = was.Reads
	case 4:
		clear(x.Log.List)
		_ = append(x.Log.List, put(9, 9), put(9, 9))
		x.Log.List = was.Log.List
	default:
		if which-5 == len(x.Frames) {
			clear(x.Frames)
			_ = append(x.Frames, Frame{}, Frame{})
			x.Frames = was.Frames
			return true
		}
		if which-5 > len(x.Frames) {
			return false
		}
		spoil(x.Frames[which-5].Regs)
		x.Frames[which-5].Regs = was.Frames[which-5].Regs
	}
	return true
}

// R1: what is answered is new, and no list of it shares memory with another one, or
// with what was given; beside an error, too.
func TestAnswersAreNew(t *testing.T) {
	for _, c := range given() {
		for _, rest := range walked(c, who, snap, always(usual(), free())) {
			x := roomy(rest)
			for _, h := range [][]api.Cell{usual(), nil} {
				for which := range 20 {
					one, _ := Step(x, c, h, free())
					two, _, _ := Run(x, c, h, free())
					for _, y := range []Try{one, two} {
						was := tryCopy(y)
						if !spoilOne(&y, which) {
							continue
						}
						if !sameTry(y, was) || !sameTry(x, rest) {
							t.Fatalf("behind a change of the list %d of %+v in %v: %+v, of %+v", which, was, c, y, x)
						}
					}
				}
			}
		}
	}
	for which := range 5 {
		c := sets(3)
		x := begun(t, c)
		spoilOne(&x, which)
		if y := begun(t, c); !sameTry(y, at(0, regsOf())) {
			t.Errorf("Begin answers what it has answered: %+v", y)
		}
	}
}

// R1: what Out answers is new.
func TestOutIsNew(t *testing.T) {
	for _, c := range given() {
		x, _, _ := Run(begun(t, c), c, full(), free())
		want := Out(x)
		if x.Kind != model.Done {
			continue
		}
		was := tryCopy(x)
		for which := range 4 {
			o := Out(x)
			lists := []*[]int{&o.Regs, &o.Path, &o.Seen}
			if which < 3 {
				spoil(*lists[which])
				*lists[which] = slices.Clone([][]int{want.Regs, want.Path, want.Seen}[which])
			} else {
				clear(o.Writes)
				o.Writes = want.Writes
			}
			if !sameOut(o, want) || !sameTry(x, was) || !sameOut(Out(x), want) {
				t.Errorf("behind a change of the list %d: %+v, of %+v", which, o, x)
			}
		}
	}
}

// R4: what is answered hangs on what was given alone.
func TestTheSameAgain(t *testing.T) {
	for _, c := range given() {
		want := walked(c, who, snap, always(usual(), free()))
		for range 3 {
			wantWalk(t, c, always(usual(), free()))
			wantWalk(t, busy(), always(full(), table(9)))
			if y, n, e := Run(begun(t, c), c, usual(), free()); e != api.OK || n != len(want)-1 || !sameTry(y, want[n]) {
				t.Errorf("Run of %v: %+v, %d, %d", c, y, n, e)
			}
		}
	}
}
