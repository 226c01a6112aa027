package order

import (
	"encoding/binary"
	"fmt"
	"reflect"
	"testing"

	"handshaker/api"
	"handshaker/attempt"
	"handshaker/code"
	"handshaker/commit"
	"handshaker/model"
)

// text tells all that a value has; a list that is nil and one that is empty are told
// alike.
func text(v any) string { return fmt.Sprintf("%+v", v) }

// packed tells all that a schedule has, as text does, for those who ask it of very many.
func packed(s Sched) string {
	b := packNumbers(nil, len(s.World.Heap), len(s.World.Table), s.World.Clock, len(s.Threads), len(s.Log))
	for _, c := range s.World.Heap {
		b = packNumbers(packBool(b, c.Live), c.Value)
	}
	for _, r := range s.World.Table {
		b = packNumbers(b, r.Version, r.Owner)
	}
	for _, x := range s.Threads {
		b = packCommit(packTry(packCode(b, x.Code), x.Try), x.Commit)
		b = packNumbers(b, x.At, x.Begun, int(x.Err))
	}
	for _, x := range s.Log {
		b = packOut(packNumbers(b, x.Who, x.Version), x.Out)
	}
	return string(b)
}

func sameCode(c, other []code.Step) bool {
	return string(packCode(nil, c)) == string(packCode(nil, other))
}

func sameCommit(c, other commit.Commit) bool {
	return string(packCommit(nil, c)) == string(packCommit(nil, other))
}

func alike(out, other model.Out) bool {
	return string(packOut(nil, out)) == string(packOut(nil, other))
}

func packNumbers(b []byte, l ...int) []byte {
	for _, n := range l {
		b = binary.AppendVarint(b, int64(n))
	}
	return b
}

func packBool(b []byte, is bool) []byte {
	if is {
		return append(b, 1)
	}
	return append(b, 0)
}

func packLists(b []byte, lists ...[]int) []byte {
	for _, l := range lists {
		b = packNumbers(packNumbers(b, len(l)), l...)
	}
	return b
}

func packWrites(b []byte, l []api.Write) []byte {
	b = packNumbers(b, len(l))
	for _, w := range l {
		b = packNumbers(b, w.Cell, w.Value)
	}
	return b
}

func packCode(b []byte, c []code.Step) []byte {
	b = packNumbers(b, len(c))
	for _, s := range c {
		b = packNumbers(b, s.Do, s.A, s.B, len(s.Term))
		for _, o := range s.Term {
			b = packNumbers(b, o.Kind, o.N)
		}
	}
	return b
}

func packCommit(b []byte, c commit.Commit) []byte {
	return packNumbers(packTry(b, c.Try), c.Phase, c.Version, int(c.Err))
}

func packOut(b []byte, out model.Out) []byte {
	b = packLists(packNumbers(b, out.Kind, out.Why), out.Regs, out.Path, out.Seen)
	return packWrites(b, out.Writes)
}

func packTry(b []byte, x attempt.Try) []byte {
	b = packNumbers(b, x.Who, x.Snap, x.Pc, x.Kind, x.Why, len(x.Reads), len(x.Frames))
	b = packLists(b, x.Regs, x.Path, x.Log.Marks)
	for _, r := range x.Reads {
		b = packNumbers(b, r.Cell, r.Version, r.Value)
	}
	for _, f := range x.Frames {
		b = packLists(packNumbers(b, f.Mid, f.End, f.Long), f.Regs)
	}
	return packWrites(b, x.Log.List)
}

// eachList goes through all lists that a value has, those in other ones too.
func eachList(v reflect.Value, do func(list reflect.Value)) {
	switch v.Kind() {
	case reflect.Struct:
		for i := range v.NumField() {
			eachList(v.Field(i), do)
		}
	case reflect.Slice:
		for i := range v.Len() {
			eachList(v.Index(i), do)
		}
		do(v)
	}
}

// roomy is a copy of a value, with more memory behind the end of each list.
func roomy[T any](v T) T {
	return roomyValue(reflect.ValueOf(&v).Elem()).Interface().(T)
}

func roomyValue(v reflect.Value) reflect.Value {
	c := reflect.New(v.Type()).Elem()
	switch v.Kind() {
	case reflect.Struct:
		for i := range v.NumField() {
			c.Field(i).Set(roomyValue(v.Field(i)))
		}
	case reflect.Slice:
		c.Set(reflect.MakeSlice(v.Type(), v.Len(), v.Len()+3))
		for i := range v.Len() {
			c.Index(i).Set(roomyValue(v.Index(i)))
		}
	default:
		c.Set(v)
	}
	return c
}

// wantRoom asks that nothing has been written behind the end of a list of what roomy
// answered.
func wantRoom(t *testing.T, v any) {
	t.Helper()
	eachList(reflect.ValueOf(v), func(list reflect.Value) {
		whole := list.Slice3(0, list.Cap(), list.Cap())
		for i := list.Len(); i < list.Cap(); i++ {
			if !whole.Index(i).IsZero() {
				t.Errorf("%v was written behind the end of %v", whole.Index(i), list)
			}
		}
	})
}

// wantOwn asks that no two lists of all these values have memory in common, behind
// their ends too.
func wantOwn(t *testing.T, values ...any) {
	t.Helper()
	type place struct{ from, to uintptr }
	var taken []place
	for _, v := range values {
		eachList(reflect.ValueOf(v), func(list reflect.Value) {
			if list.Cap() == 0 {
				return
			}
			p := place{from: list.Pointer()}
			p.to = p.from + uintptr(list.Cap())*list.Type().Elem().Size()
			for _, other := range taken {
				if p.from < other.to && other.from < p.to {
					t.Errorf("a list of %s shares its memory with another one: %v", list.Type(), list)
				}
			}
			taken = append(taken, p)
		})
	}
}
