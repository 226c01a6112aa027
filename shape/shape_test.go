package shape

import (
	"bytes"
	"math"
	"slices"
	"testing"

	"handshaker/api"
	"handshaker/code"
	"handshaker/term"
)

const (
	least    = -api.MaxValue - 1
	greatest = api.MaxValue
	turn     = 1 << 32
)

var retry = code.Step{Do: code.Retry}

func num(n int) []term.Op                  { return []term.Op{{Kind: term.Const, N: n}} }
func load(reg, cell int) code.Step         { return code.Step{Do: code.Load, A: reg, B: cell} }
func set(reg, n int) code.Step             { return code.Step{Do: code.Set, A: reg, Term: num(n)} }
func store(cell, n int) code.Step          { return code.Step{Do: code.Store, A: cell, Term: num(n)} }
func skip(n int) code.Step                 { return code.Step{Do: code.Skip, A: n, Term: num(1)} }
func fail(why int) code.Step               { return code.Step{Do: code.Fail, A: why} }
func either(a, b int) code.Step            { return code.Step{Do: code.Either, A: a, B: b} }
func steps(c ...code.Step) []code.Step     { return c }
func retries(n int) []code.Step            { return slices.Repeat(steps(retry), n) }
func codes(l ...[]code.Step) [][]code.Step { return l }

// deep is a code of n Eithers, each in the one around it.
func deep(n int) []code.Step {
	c := retries(1)
	for range n {
		c = slices.Concat(steps(either(len(c), 1)), c, retries(1))
	}
	return c
}

// nots is one number, and n-1 operations behind it.
func nots(n int) []term.Op {
	return append(num(1), slices.Repeat([]term.Op{{Kind: term.Not}}, n-1)...)
}

// manyKinds is a term of unlike operations, one behind the other.
func manyKinds() []term.Op {
	return []term.Op{
		{Kind: term.Reg, N: 7}, {Kind: term.Const, N: -2}, {Kind: term.Const, N: 258}, {Kind: term.Reg, N: 0},
		{Kind: term.Plus}, {Kind: term.Less}, {Kind: term.Times}, {Kind: term.Not},
	}
}

// values are numbers that a Const may have, with bytes that are unlike each other,
// and at each end of what one, two, three and four bytes tell.
func values() []int {
	all := []int{0, 1, -1, 2, -2, 5, -3, 0x01020304, -0x01020304, 0x7f80ff00, least, least + 1, greatest - 1, greatest}
	for _, bits := range []int{7, 8, 15, 16, 23, 24, 30} {
		n := 1 << bits
		all = append(all, n-1, n, n+1, -n-1, -n, -n+1)
	}
	return all
}

func rightTerms() [][]term.Op {
	all := [][]term.Op{manyKinds(), nots(2), nots(11), nots(12)}
	for _, n := range values() {
		all = append(all, num(n), []term.Op{{Kind: term.Reg, N: 3}, {Kind: term.Const, N: n}, {Kind: term.Below}})
	}
	for reg := range 8 {
		all = append(all, []term.Op{{Kind: term.Reg, N: reg}})
	}
	for kind := term.Plus; kind <= term.Either; kind++ {
		all = append(all, append(slices.Concat(num(7), num(-7)), term.Op{Kind: kind}))
	}
	return all
}

// rightCodes have each Do, with its A, B and Term at each end of what they may be.
func rightCodes() [][]code.Step {
	all := [][]code.Step{
		nil, {}, retries(1), retries(2), retries(23), retries(24),
		steps(load(0, 0)), steps(load(7, 0)), steps(load(0, 63)), steps(load(7, 63)), steps(load(2, 9), retry),
		steps(set(0, 1)), steps(set(7, 1)), steps(store(0, 1)), steps(store(63, 1)),
		steps(skip(1), retry), append(steps(skip(23)), retries(23)...), steps(skip(1), skip(1), retry),
		steps(fail(0)), steps(fail(1)), steps(fail(127)), steps(fail(128)), steps(fail(254)), steps(fail(255)),
		steps(either(1, 1), retry, retry), append(steps(either(22, 1)), retries(23)...), append(steps(either(1, 22)), retries(23)...),
		deep(1), deep(5), deep(6),
		steps(load(1, 0), set(2, -1), store(3, 4), skip(4), retry, either(1, 2), fail(6), load(7, 8), store(9, 10)),
		slices.Repeat(steps(code.Step{Do: code.Set, A: 7, Term: nots(12)}), 24),
		steps(code.Step{Do: code.Load, Term: []term.Op{}}),
	}
	for _, x := range rightTerms() {
		all = append(all, steps(
			code.Step{Do: code.Set, A: 1, Term: x}, code.Step{Do: code.Store, A: 2, Term: x}, code.Step{Do: code.Skip, A: 1, Term: x}, retry,
		))
	}
	return all
}

// wrongCode is a code of which Check has an error.
type wrongCode struct {
	code []code.Step
	e    api.Errno
}

// wrongBytes are codes with an error whose numbers are those of bytes all the same.
func wrongBytes() []wrongCode {
	all := []wrongCode{
		{steps(either(1, 1)), api.ErrForm}, {steps(either(1, 1), retry), api.ErrForm}, {steps(skip(1)), api.ErrForm},
		{steps(either(1, 1), skip(1), retry), api.ErrForm}, {append(steps(skip(24)), retries(23)...), api.ErrForm},
		{deep(7), api.ErrBig}, {append(deep(7), retries(9)...), api.ErrBig}, {deep(11), api.ErrBig},
		{retries(25), api.ErrArg}, {retries(26), api.ErrArg}, {retries(255), api.ErrArg},
		{append(deep(7), retries(10)...), api.ErrArg},
	}
	for _, s := range []code.Step{
		load(8, 0), load(255, 0), load(0, 64), load(0, 255), set(8, 1), store(64, 1), skip(0), skip(25),
		either(0, 1), either(1, 0), either(25, 1), either(1, 25), either(255, 255),
		{Do: code.Retry, A: 1}, {Do: code.Retry, B: 1}, {Do: code.Fail, B: 1}, {Do: code.Set, B: 1, Term: num(1)},
		{Do: code.Retry, Term: num(1)}, {Do: code.Load, Term: num(1)}, {Do: code.Fail, Term: num(1)}, {Do: code.Either, A: 1, B: 1, Term: num(1)},
		{Do: code.Set}, {Do: code.Store}, {Do: code.Skip, A: 1},
		{}, {Do: 8}, {Do: 9}, {Do: 128}, {Do: 255},
	} {
		all = append(all, wrongCode{steps(s, retry, retry), api.ErrArg}, wrongCode{steps(retry, retry, s), api.ErrArg})
	}
	for _, x := range [][]term.Op{
		{{Kind: 0, N: 1}}, {{Kind: 12}}, {{Kind: 255}}, {{Kind: term.Cell, N: 1}}, {{Kind: term.Reg, N: 8}}, {{Kind: term.Reg, N: -1}},
		{{Kind: term.Const, N: 1}, {Kind: term.Not, N: 1}}, {{Kind: term.Not}}, slices.Concat(num(1), num(2)), nots(13), nots(255),
	} {
		all = append(all, wrongCode{steps(retry, code.Step{Do: code.Set, A: 1, Term: x}), api.ErrArg})
	}
	return all
}

// wrongCodes are those, and such as come to a right one if they are cut to bytes.
func wrongCodes() []wrongCode {
	all := append(wrongBytes(), wrongCode{retries(256), api.ErrArg}, wrongCode{retries(257), api.ErrArg})
	for _, n := range []int{256, -256, turn, -turn, math.MinInt} {
		for _, s := range []code.Step{
			load(n, 0), load(0, n), set(n, 1), store(n, 1), {Do: code.Retry, A: n}, {Do: code.Retry, B: n}, fail(n), fail(n + 255), {Do: n + code.Retry},
			{Do: code.Set, Term: []term.Op{{Kind: n + term.Const, N: 1}}}, {Do: code.Set, Term: []term.Op{{Kind: term.Reg, N: n}}},
			either(1+n, 1), either(1, 1+n), skip(1 + n),
		} {
			all = append(all, wrongCode{steps(s, retry, retry), api.ErrArg})
		}
	}
	for _, n := range []int{greatest + 1, least - 1, turn, -turn, turn + 1, math.MinInt, math.MaxInt} {
		all = append(all, wrongCode{steps(set(1, n)), api.ErrArg})
	}
	for _, n := range []int{256, 257, 256 + 12} {
		all = append(all, wrongCode{steps(code.Step{Do: code.Set, Term: nots(n)}), api.ErrArg})
	}
	return append(all, wrongCode{steps(code.Step{Do: code.Retry, Term: nots(256)}), api.ErrArg})
}

// rightLists are codes that are written.
func rightLists() [][][]code.Step {
	all := [][][]code.Step{
		nil, {}, codes(nil, nil), codes(retries(1), nil, retries(2)), codes(nil, steps(load(2, 63)), nil),
		slices.Repeat(codes(nil), 8), slices.Repeat(codes(retries(1)), 8), slices.Repeat(codes(retries(24)), 7),
		slices.Repeat(codes(slices.Repeat(steps(code.Step{Do: code.Set, A: 7, Term: nots(12)}), 24)), 8),
	}
	right := rightCodes()
	for i, c := range right {
		all = append(all, codes(c))
		all = append(all, codes(c, right[(i+7)%len(right)], right[(i+31)%len(right)]))
	}
	for n := range MaxCodes + 1 {
		all = append(all, right[:n], right[8:8+n])
	}
	return all
}

// fourBytes takes a number apart by the chapter's words.
func fourBytes(n int) []byte {
	if n < 0 {
		n += turn
	}
	return []byte{byte(n / (256 * 256 * 256)), byte(n / (256 * 256) % 256), byte(n / 256 % 256), byte(n % 256)}
}

// laidOut are a code's bytes by the chapter's words, whether it may be or not.
func laidOut(c []code.Step) []byte {
	all := [][]byte{{byte(len(c))}}
	for _, s := range c {
		all = append(all, []byte{byte(s.Do)}, []byte{byte(s.A)}, []byte{byte(s.B)}, []byte{byte(len(s.Term))})
		for _, o := range s.Term {
			all = append(all, []byte{byte(o.Kind)}, fourBytes(o.N))
		}
	}
	return slices.Concat(all...)
}

func allLaidOut(l ...[]code.Step) []byte {
	b := []byte{byte(len(l))}
	for _, c := range l {
		b = append(b, laidOut(c)...)
	}
	return b
}

// oneCode is read beside Read, by the place at which each thing stands; the place
// behind it is -1, if the bytes end ahead of that.
func oneCode(b []byte, at int) (c []code.Step, behind int) {
	if at >= len(b) {
		return nil, -1
	}
	count := int(b[at])
	at++
	for range count {
		if at+4 > len(b) {
			return nil, -1
		}
		ops := int(b[at+3])
		if at+4+5*ops > len(b) {
			return nil, -1
		}
		s := code.Step{Do: int(b[at]), A: int(b[at+1]), B: int(b[at+2])}
		for i := range ops {
			o := b[at+4+5*i:]
			n := int(int32(uint32(o[1])<<24 + uint32(o[2])<<16 + uint32(o[3])<<8 + uint32(o[4])))
			s.Term = append(s.Term, term.Op{Kind: int(o[0]), N: n})
		}
		c = append(c, s)
		at += 4 + 5*ops
	}
	return c, at
}

func readBeside(b []byte) ([][]code.Step, api.Errno) {
	if len(b) == 0 || b[0] > 8 {
		return nil, api.ErrForm
	}
	var l [][]code.Step
	at := 1
	for range b[0] {
		c, behind := oneCode(b, at)
		if behind < 0 || code.Check(c) != api.OK {
			return nil, api.ErrForm
		}
		l, at = append(l, c), behind
	}
	if at != len(b) {
		return nil, api.ErrForm
	}
	return l, api.OK
}

func sameStep(s, other code.Step) bool {
	return s.Do == other.Do && s.A == other.A && s.B == other.B && slices.Equal(s.Term, other.Term)
}

func sameCode(c, other []code.Step) bool { return slices.EqualFunc(c, other, sameStep) }

func sameCodes(l, other [][]code.Step) bool { return slices.EqualFunc(l, other, sameCode) }

func copyOf(l [][]code.Step) [][]code.Step {
	l = slices.Clone(l)
	for i := range l {
		l[i] = slices.Clone(l[i])
		for j := range l[i] {
			l[i][j].Term = slices.Clone(l[i][j].Term)
		}
	}
	return l
}

// brief keeps what is long out of the tests' messages.
func brief[T any](l []T) []T { return l[:min(len(l), 24)] }

func written(t *testing.T, l ...[]code.Step) []byte {
	t.Helper()
	b, e := Write(l...)
	if e != api.OK {
		t.Fatalf("Write of %d codes %v: %d", len(l), brief(l), e)
	}
	return b
}

func wantWritten(t *testing.T, want []byte, l ...[]code.Step) {
	t.Helper()
	if b, e := Write(l...); e != api.OK || !bytes.Equal(b, want) {
		t.Errorf("Write of %d codes %v: %v, %d, want %v", len(l), brief(l), brief(b), e, brief(want))
	}
}

func wantRefused(t *testing.T, l ...[]code.Step) {
	t.Helper()
	if b, e := Write(l...); e != api.ErrArg || len(b) != 0 {
		t.Errorf("Write of %d codes %v: %v, %d", len(l), brief(l), brief(b), e)
	}
}

func wantNone(t *testing.T, b []byte) {
	t.Helper()
	if l, e := Read(b); e != api.ErrForm || len(l) != 0 {
		t.Errorf("Read of %d bytes %v: %v, %d", len(b), brief(b), brief(l), e)
	}
}

func wantRead(t *testing.T, b []byte, want [][]code.Step) {
	t.Helper()
	if l, e := Read(b); e != api.OK || !sameCodes(l, want) {
		t.Errorf("Read of %d bytes %v: %v, %d, want %v", len(b), brief(b), brief(l), e, brief(want))
	}
}

// wantBeside asks for what is read beside Read, and that codes which are read are
// written as just these bytes. It tells whether there are any.
func wantBeside(t *testing.T, b []byte) bool {
	t.Helper()
	want, e := readBeside(b)
	if e != api.OK {
		wantNone(t, b)
		return false
	}
	wantRead(t, b, want)
	l, _ := Read(b)
	wantWritten(t, b, l...)
	return true
}

// P9.1: the chapter's numbers, and its example.
func TestExample(t *testing.T) {
	if MaxCodes != 8 {
		t.Errorf("MaxCodes: %d", MaxCodes)
	}
	want := []byte{1, 1, 5, 0, 0, 0}
	wantWritten(t, want, retries(1))
	wantRead(t, want, codes(retries(1)))
	if n := Size(retries(1)); n != 5 {
		t.Errorf("Size of Retry: %d", n)
	}
}

// P9.1: bytes that are written out here by hand.
func TestBytesByHand(t *testing.T) {
	for _, x := range []struct {
		bytes []byte
		codes [][]code.Step
	}{
		{[]byte{0}, nil},
		{[]byte{1, 0}, codes(nil)},
		{[]byte{2, 0, 0}, codes(nil, nil)},
		{[]byte{8, 0, 0, 0, 0, 0, 0, 0, 0}, slices.Repeat(codes(nil), 8)},
		{[]byte{1, 1, 1, 7, 63, 0}, codes(steps(load(7, 63)))},
		{[]byte{1, 1, 2, 3, 0, 1, 1, 0, 0, 0, 0}, codes(steps(set(3, 0)))},
		{[]byte{1, 1, 2, 3, 0, 1, 1, 0, 0, 0, 1}, codes(steps(set(3, 1)))},
		{[]byte{1, 1, 2, 3, 0, 1, 1, 255, 255, 255, 255}, codes(steps(set(3, -1)))},
		{[]byte{1, 1, 3, 63, 0, 1, 1, 1, 2, 3, 4}, codes(steps(store(63, 0x01020304)))},
		{[]byte{1, 1, 3, 63, 0, 1, 1, 254, 253, 252, 252}, codes(steps(store(63, -0x01020304)))},
		{[]byte{1, 1, 3, 0, 0, 1, 1, 127, 255, 255, 255}, codes(steps(store(0, greatest)))},
		{[]byte{1, 1, 3, 0, 0, 1, 1, 128, 0, 0, 0}, codes(steps(store(0, least)))},
		{[]byte{1, 2, 4, 1, 0, 2, 3, 0, 0, 0, 5, 11, 0, 0, 0, 0, 5, 0, 0, 0}, codes(steps(
			code.Step{Do: code.Skip, A: 1, Term: []term.Op{{Kind: term.Reg, N: 5}, {Kind: term.Not}}}, retry))},
		{[]byte{1, 1, 6, 255, 0, 0}, codes(steps(fail(255)))},
		{[]byte{1, 4, 7, 1, 2, 0, 5, 0, 0, 0, 6, 9, 0, 0, 5, 0, 0, 0}, codes(steps(either(1, 2), retry, fail(9), retry))},
		{[]byte{3, 1, 5, 0, 0, 0, 0, 2, 6, 1, 0, 0, 1, 2, 3, 0}, codes(retries(1), nil, steps(fail(1), load(2, 3)))},
	} {
		wantWritten(t, x.bytes, x.codes...)
		wantRead(t, x.bytes, x.codes)
	}
}

// P9.1, P9.2: what is written is the bytes of the chapter's words, and is read.
func TestWhatIsWrittenIsRead(t *testing.T) {
	for _, l := range rightLists() {
		want := allLaidOut(l...)
		wantWritten(t, want, l...)
		wantRead(t, want, l)
	}
}

// P9.1: every step that may be, of each A and B, and with a Term of each length.
func TestEachStep(t *testing.T) {
	found := 0
	for do := range 10 {
		for a := range 256 {
			for b := range 66 {
				for _, x := range [][]term.Op{nil, num(-7)} {
					c := append(steps(code.Step{Do: do, A: a, B: b, Term: x}), retries(23)...)
					if code.Check(c) != api.OK {
						continue
					}
					found++
					wantWritten(t, allLaidOut(c), c)
					wantRead(t, allLaidOut(c), codes(c))
				}
			}
		}
	}
	// Loads, Sets, Stores, Skips, Retry, Fails, and the Eithers of 23 steps at most.
	if want := 8*64 + 8 + 64 + 23 + 1 + 256 + 22*23/2; found != want {
		t.Errorf("%d steps may be, want %d", found, want)
	}
	for n := 1; n <= 12; n++ {
		c := steps(code.Step{Do: code.Set, Term: nots(n)})
		wantWritten(t, allLaidOut(c), c)
		wantRead(t, allLaidOut(c), codes(c))
	}
}

// P9.1: what an N may be, around each multiple of each byte.
func TestEachNumber(t *testing.T) {
	all := values()
	for _, shift := range []int{0, 8, 16, 24} {
		for n := -256; n <= 256; n++ {
			if m := n << shift; m >= least && m <= greatest {
				all = append(all, m)
			}
		}
	}
	for _, n := range all {
		c := steps(set(1, n))
		b := written(t, c)
		if want := slices.Concat([]byte{1, 1, 2, 1, 0, 1, 1}, fourBytes(n)); !bytes.Equal(b, want) {
			t.Errorf("the bytes of %d: %v, want %v", n, b, want)
		}
		wantRead(t, b, codes(c))
	}
}

// P9.1: how many codes there may be, with an error or without.
func TestHowManyCodes(t *testing.T) {
	for n := range 9 {
		for _, c := range codes(nil, retries(1), deep(6)) {
			l := slices.Repeat(codes(c), n)
			wantWritten(t, allLaidOut(l...), l...)
			wantRead(t, allLaidOut(l...), l)
		}
	}
	for _, n := range []int{9, 10, 16, 255, 256, 257, 256 + 8, 1 << 16} {
		for _, c := range codes(nil, retries(1), retries(25), deep(7)) {
			wantRefused(t, slices.Repeat(codes(c), n)...)
		}
	}
}

// P9.1: bytes of more codes than there may be.
func TestBytesOfTooManyCodes(t *testing.T) {
	for n := 9; n <= 255; n++ {
		for _, c := range codes(nil, retries(1), deep(6)) {
			b := allLaidOut(slices.Repeat(codes(c), n)...)
			wantNone(t, b)
			wantNone(t, b[:1])
			wantNone(t, b[:len(b)-1])
		}
	}
}

// P9.1: a code with an error, of each kind of error, as the first, the last, and
// between others.
func TestCodesWithAnError(t *testing.T) {
	fine := steps(load(1, 2), store(3, 4))
	for _, x := range wrongCodes() {
		if e := code.Check(x.code); e != x.e {
			t.Fatalf("Check of %v: %d, want %d", brief(x.code), e, x.e)
		}
		for n := range 8 {
			for place := range n + 1 {
				l := slices.Insert(slices.Repeat(codes(fine), n), place, x.code)
				wantRefused(t, l...)
			}
		}
		wantRefused(t, slices.Repeat(codes(x.code), 8)...)
		if n := Size(x.code); n != 0 {
			t.Errorf("Size of %v: %d", brief(x.code), n)
		}
	}
}

// P9.1: bytes that are laid out as codes, of which one has an error.
func TestBytesOfCodesWithAnError(t *testing.T) {
	fine := steps(load(1, 2), store(3, 4))
	for _, x := range wrongBytes() {
		for n := range 8 {
			for place := range n + 1 {
				l := slices.Insert(slices.Repeat(codes(fine), n), place, x.code)
				wantNone(t, allLaidOut(l...))
			}
		}
		wantNone(t, allLaidOut(slices.Repeat(codes(x.code), 8)...))
	}
}

// P9.1
func TestSize(t *testing.T) {
	for _, x := range []struct {
		code []code.Step
		want int
	}{
		{nil, 1}, {steps(), 1}, {retries(1), 5}, {retries(24), 97}, {steps(set(1, 1)), 10}, {steps(load(2, 63), retry), 9},
		{steps(code.Step{Do: code.Set, Term: nots(12)}), 65}, {slices.Repeat(steps(code.Step{Do: code.Set, Term: nots(12)}), 24), 24*64 + 1},
		{retries(25), 0}, {steps(either(1, 1)), 0}, {deep(7), 0}, {deep(6), 13*4 + 1},
	} {
		if n := Size(x.code); n != x.want {
			t.Errorf("Size of %v: %d, want %d", brief(x.code), n, x.want)
		}
	}
	for _, l := range rightLists() {
		sum := 1
		for _, c := range l {
			if n := Size(c); n != len(written(t, c))-1 || n != len(laidOut(c)) {
				t.Errorf("Size of %v: %d", brief(c), n)
			}
			sum += Size(c)
		}
		if n := len(written(t, l...)); n != sum {
			t.Errorf("%d bytes of codes whose Sizes are %d: %v", n, sum, brief(l))
		}
	}
}

// P9.1: no byte, and each one alone.
func TestReadOfFewBytes(t *testing.T) {
	wantNone(t, nil)
	wantNone(t, []byte{})
	wantRead(t, []byte{0}, nil)
	for n := 1; n < 256; n++ {
		wantNone(t, []byte{byte(n)})
	}
	for first := range 256 {
		for next := range 256 {
			if found := wantBeside(t, []byte{byte(first), byte(next)}); found != (first == 1 && next == 0) {
				t.Errorf("Read of %d, %d: found %v", first, next, found)
			}
		}
	}
}

// P9.2: what is written ends just where it ends.
func TestCutOffAndMore(t *testing.T) {
	for _, l := range rightLists() {
		b := written(t, l...)
		for n := range b {
			wantNone(t, b[:n])
		}
		for _, more := range [][]byte{{0}, {1}, {5}, {255}, {0, 0}, {5, 0, 0, 0}, {1, 5, 0, 0, 0}, make([]byte, 64), b} {
			wantNone(t, slices.Concat(b, more))
		}
		wantNone(t, slices.Concat([]byte{0}, b))
	}
}

// P9.1: bytes that name more codes, steps or operations than there are, or fewer.
func TestWrongCounts(t *testing.T) {
	set := code.Step{Do: code.Set, A: 1, Term: nots(3)}
	b := written(t, retries(3), steps(set, retry), steps(retry, set))
	for name, place := range map[string]int{
		"codes": 0, "steps of the first": 1, "steps of the second": 14, "operations of the second": 18, "steps of the last": 38, "operations of the last": 46,
	} {
		for n := range 256 {
			changed := slices.Clone(b)
			changed[place] = byte(n)
			if n == int(b[place]) {
				wantRead(t, changed, codes(retries(3), steps(set, retry), steps(retry, set)))
			} else if wantBeside(t, changed) {
				t.Errorf("%s: %d, found", name, n)
			}
		}
	}
}

// P9.2: bytes that are changed are those of no codes, or of others.
func TestEachByteChanged(t *testing.T) {
	for _, l := range rightLists() {
		b := written(t, l...)
		if len(b) > 200 {
			continue
		}
		for place := range b {
			for _, by := range []byte{1, 255, 2, 7, 128} {
				changed := slices.Clone(b)
				changed[place] += by
				if !wantBeside(t, changed) {
					continue
				}
				if other, _ := Read(changed); sameCodes(l, other) {
					t.Errorf("%v and %v are read as the same codes", b, changed)
				}
			}
		}
	}
}

// P9.1: a byte taken away, or put in, wherever it stands.
func TestEachByteTakenAwayOrPutIn(t *testing.T) {
	for _, l := range rightLists() {
		b := written(t, l...)
		if len(b) > 100 {
			continue
		}
		for place := range b {
			wantBeside(t, slices.Delete(slices.Clone(b), place, place+1))
			for _, more := range []byte{0, 1, 5, 255} {
				wantBeside(t, slices.Insert(slices.Clone(b), place, more))
			}
		}
	}
}

// P9.2: of every few bytes of a small set, each is read in one way, or in none.
func TestAllFewBytes(t *testing.T) {
	set := []byte{0, 1, 2, 5, 6, 255}
	ways := map[string]bool{}
	found := 0
	var grow func(b []byte)
	grow = func(b []byte) {
		if wantBeside(t, b) {
			found++
			ways[string(allLaidOut(mustRead(t, b)...))] = true
		}
		if len(b) < 7 {
			for _, x := range set {
				grow(append(slices.Clone(b), x))
			}
		}
	}
	grow(nil)
	// No code; 1, 2, 5 and 6 of no step; 25 Loads, Retry and 6 Fails, each alone, and
	// ahead of or behind a code of no step.
	if want := 1 + 4 + 3*(25+1+6); found != want || len(ways) != want {
		t.Errorf("%d are read, in %d ways, want %d", found, len(ways), want)
	}
}

func mustRead(t *testing.T, b []byte) [][]code.Step {
	t.Helper()
	l, e := Read(b)
	if e != api.OK {
		t.Fatalf("Read of %v: %d", brief(b), e)
	}
	return l
}

// P1: long bytes, too, are read or refused.
func TestLongBytes(t *testing.T) {
	for _, x := range []byte{0, 1, 5, 8, 24, 127, 128, 255} {
		for _, n := range []int{9, 100, 1 << 10, 1 << 20} {
			wantNone(t, bytes.Repeat([]byte{x}, n))
			wantNone(t, append([]byte{1}, bytes.Repeat([]byte{x}, n)...))
			wantNone(t, append([]byte{8, 255, 2, 0, 0}, bytes.Repeat([]byte{x}, n)...))
		}
	}
}

// P9.2: what two unlike lists of codes are written as is unlike.
func TestUnlikeCodesAreUnlikeBytes(t *testing.T) {
	met := map[string][][]code.Step{}
	for _, l := range rightLists() {
		b := string(written(t, l...))
		if other, ok := met[b]; ok && !sameCodes(l, other) {
			t.Errorf("%v and %v are written as the same bytes", brief(l), brief(other))
		}
		met[b] = l
	}
}

// R1: no call changes the codes that it was given, nor what stands in memory
// behind them.
func TestCodesStayAsTheyWere(t *testing.T) {
	all := rightLists()
	for _, x := range wrongCodes() {
		all = append(all, codes(retries(2), x.code, steps(set(1, 2))), codes(x.code))
	}
	all = append(all, slices.Repeat(codes(steps(set(1, 2))), 9))
	for _, l := range all {
		long := append(copyOf(l), steps(store(7, 8)), retries(3))
		for i, c := range long {
			long[i] = append(c, store(9, 10), retry)[:len(c)]
		}
		given := long[:len(l)]
		was := copyOf(wholes(long))
		Write(given...)
		for _, c := range given {
			Size(c)
		}
		if !sameCodes(wholes(long), was) {
			t.Errorf("%v has become %v", brief(was), brief(long))
		}
	}
}

// wholes are the codes with what stands in memory behind each.
func wholes(l [][]code.Step) [][]code.Step {
	all := slices.Clone(l)
	for i, c := range all {
		all[i] = c[:len(c)+2]
	}
	return all
}

// R1: Read changes no byte that it was given, reads none behind them, and keeps
// none.
func TestBytesStayAsTheyWere(t *testing.T) {
	for _, l := range rightLists() {
		b := written(t, l...)
		for _, n := range []int{0, len(b) / 2, len(b) - 1, len(b)} {
			long := append(slices.Clone(b), 1, 5, 0, 0, 0)
			was := slices.Clone(long)
			got, e := Read(long[:n])
			if !bytes.Equal(long, was) {
				t.Errorf("%v has become %v", brief(was), brief(long))
			}
			clear(long)
			if n == len(b) && (e != api.OK || !sameCodes(got, l)) {
				t.Errorf("behind a change of the bytes Read told %v, %d, want %v", brief(got), e, brief(l))
			}
		}
	}
}

// R1, R4: the bytes that are answered are new each time, and the same each time.
func TestWrittenBytesAreNew(t *testing.T) {
	for _, l := range rightLists() {
		was := copyOf(l)
		first := written(t, l...)
		next := written(t, l...)
		want := slices.Clone(next)
		for i := range first {
			first[i] ^= 255
		}
		_ = append(first, 1, 2, 3)
		if third := written(t, l...); !bytes.Equal(next, want) || !bytes.Equal(third, want) || !sameCodes(l, was) {
			t.Errorf("Write of %v, behind a change of its answer: %v, %v", brief(l), brief(next), brief(third))
		}
	}
}

// spoil writes into all of a code, and behind it.
func spoil(c []code.Step) {
	for i := range c {
		for j := range c[i].Term {
			c[i].Term[j] = term.Op{Kind: 99, N: 99}
		}
		_ = append(c[i].Term, term.Op{Kind: 98}, term.Op{Kind: 98})
		c[i] = code.Step{Do: 97, Term: c[i].Term}
	}
	_ = append(c, code.Step{Do: 96}, code.Step{Do: 96})
}

// R1: the codes that are answered are new each time, and share no memory with one
// another.
func TestReadCodesAreNew(t *testing.T) {
	for _, l := range rightLists() {
		b := written(t, l...)
		first := mustRead(t, b)
		next := mustRead(t, b)
		for i, c := range first {
			spoil(c)
			if !sameCodes(first[i+1:], l[i+1:]) {
				t.Errorf("Read of %v: a change of the code %d is seen in another one", brief(b), i)
			}
		}
		_ = append(first, retries(1))
		if !sameCodes(next, l) || !sameCodes(mustRead(t, b), l) {
			t.Errorf("Read of %v, behind a change of its answer: %v", brief(b), brief(next))
		}
	}
}

// R1: no two terms of a code share memory.
func TestReadTermsShareNothing(t *testing.T) {
	c := slices.Repeat(steps(code.Step{Do: code.Set, A: 7, Term: manyKinds()[:1]}, set(2, 5), code.Step{Do: code.Store, Term: nots(3)}), 8)
	b := written(t, c, c)
	for place := range c {
		l := mustRead(t, b)
		s := &l[0][place]
		was := s.Term
		for i := range s.Term {
			s.Term[i] = term.Op{Kind: 99}
		}
		_ = append(s.Term, term.Op{Kind: 98}, term.Op{Kind: 98}, term.Op{Kind: 98})
		s.Term = c[place].Term
		if !sameCodes(l, codes(c, c)) {
			t.Errorf("a change of the term %d, %v, is seen in another one", place, was)
		}
	}
}
