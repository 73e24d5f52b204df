package inst_test

import (
	"bytes"
	"math"
	"slices"
	"testing"

	"plimsoll/api"
	"plimsoll/bits"
	"plimsoll/inst"
)

// The instructions with numbers, by their numbers in the document, so that
// the tests do not hang on api's names alone.
var (
	withOne = []int{1, 3, 4, 18, 19, 22, 23, 29, 30, 31, 34}
	withTwo = []int{27, 28, 32}
)

const last = 34 // OpCast

// has is how many numbers an instruction has, by the words of the chapter.
func has(op int) int {
	switch {
	case slices.Contains(withOne, op):
		return 1
	case slices.Contains(withTwo, op):
		return 2
	case 1 <= op && op <= last:
		return 0
	}
	return -1
}

// noOps are numbers of no instruction.
func noOps() []int {
	return []int{math.MinInt, math.MinInt32, -256, -34, -2, -1, 0, 35, 36, 127, 128, 255, 256 + api.OpPush,
		256 + api.OpField, 1<<32 + api.OpAdd, 1<<32 + api.OpVirt, math.MaxInt32, math.MaxInt}
}

// edges are numbers at and beyond the ends of an instruction's.
func edges() []int {
	return []int{math.MinInt, -256, -1, 0, 1, 2, 127, 128, 254, 255, 256, 257, 1 << 14, 1 << 32, 1<<32 + 5, math.MaxInt}
}

// digits are a number's bytes by chapter 2, worked out by division.
func digits(n int) []byte {
	var list []byte
	for n = max(n, 0); n >= 128; n /= 128 {
		list = append(list, byte(n%128+128))
	}
	return append(list, byte(n))
}

// spelt is an instruction's bytes, by the words of the chapter.
func spelt(i api.Instr) []byte {
	b := digits(i.Op)
	if has(i.Op) >= 1 {
		b = append(b, digits(i.A)...)
	}
	if has(i.Op) == 2 {
		b = append(b, digits(i.B)...)
	}
	return b
}

// of is an instruction by its number, and as many more as there are.
func of(op int, list ...int) api.Instr {
	list = append(list, 0, 0)
	return api.Instr{Op: op, A: list[0], B: list[1]}
}

// good are all instructions, each with some numbers that it may have.
func good() []api.Instr {
	var all []api.Instr
	for op := 1; op <= last; op++ {
		for _, a := range []int{0, 1, 127, 128, 200, 255} {
			switch has(op) {
			case 0:
				all = append(all, of(op))
			case 1:
				all = append(all, of(op, a))
			case 2:
				all = append(all, of(op, a, 0), of(op, a, 3), of(op, a, 128), of(op, 0, a), of(op, 255-a, a))
			}
		}
	}
	return all
}

// P4.1: how many numbers each instruction has.
func TestArgs(t *testing.T) {
	for op := 1; op <= last; op++ {
		if got := inst.Args(op); got != has(op) {
			t.Errorf("Args(%d) = %d, want %d", op, got, has(op))
		}
	}
	for _, x := range []struct{ op, want int }{
		{api.OpPush, 1}, {api.OpNull, 0}, {api.OpGet, 1}, {api.OpPut, 1}, {api.OpPop, 0}, {api.OpDup, 0},
		{api.OpAdd, 0}, {api.OpSub, 0}, {api.OpMul, 0}, {api.OpDiv, 0}, {api.OpRem, 0}, {api.OpAnd, 0},
		{api.OpXor, 0}, {api.OpShl, 0}, {api.OpShr, 0}, {api.OpLess, 0}, {api.OpEqual, 0}, {api.OpJump, 1},
		{api.OpZero, 1}, {api.OpIsNull, 0}, {api.OpSame, 0}, {api.OpNew, 1}, {api.OpArr, 1}, {api.OpLoad, 0},
		{api.OpStore, 0}, {api.OpLen, 0}, {api.OpField, 2}, {api.OpSetField, 2}, {api.OpStatic, 1},
		{api.OpSetStatic, 1}, {api.OpCall, 1}, {api.OpVirt, 2}, {api.OpRet, 0}, {api.OpCast, 1},
	} {
		if got := inst.Args(x.op); got != x.want {
			t.Errorf("Args(%d) = %d, want %d", x.op, got, x.want)
		}
	}
}

// P4.1: of what is no instruction, -1.
func TestArgsOthers(t *testing.T) {
	for _, op := range noOps() {
		if got := inst.Args(op); got != -1 {
			t.Errorf("Args(%d) = %d, want -1", op, got)
		}
	}
	for op := last + 1; op <= 1000; op++ {
		if inst.Args(op) != -1 || inst.Args(-op) != -1 {
			t.Errorf("Args(%d) = %d, Args(%d) = %d, want -1", op, inst.Args(op), -op, inst.Args(-op))
		}
	}
}

func wantGood(t *testing.T, i api.Instr, want bool) {
	t.Helper()
	if got := inst.Good(i); got != want {
		t.Errorf("Good(%v) = %v", i, got)
	}
}

// P4.1: ordinary instructions, and what is wrong with others.
func TestGoodOrdinary(t *testing.T) {
	for _, i := range good() {
		wantGood(t, i, true)
	}
	for _, x := range []struct {
		i    api.Instr
		want bool
	}{
		{of(api.OpAdd), true},
		{of(api.OpAdd, 1), false},
		{of(api.OpAdd, 0, 1), false},
		{of(api.OpAdd, -1), false},
		{of(api.OpAdd, 0, -1), false},
		{of(api.OpPush, 0), true},
		{of(api.OpPush, 255), true},
		{of(api.OpPush, 256), false},
		{of(api.OpPush, -1), false},
		{of(api.OpPush, 0, 1), false},
		{of(api.OpPush, 255, 255), false},
		{of(api.OpPush, 0, -1), false},
		{of(api.OpCast, 255), true},
		{of(api.OpCast, 256), false},
		{of(api.OpVirt, 255, 255), true},
		{of(api.OpVirt, 256, 0), false},
		{of(api.OpVirt, 0, 256), false},
		{of(api.OpVirt, -1, 0), false},
		{of(api.OpVirt, 0, -1), false},
		{of(0), false},
		{of(35), false},
		{of(-1), false},
	} {
		wantGood(t, x.i, x.want)
	}
}

// P4.1: all instructions, and numbers of none, with A and B at and beyond
// their ends.
func TestGoodEdges(t *testing.T) {
	fits := func(n int) bool { return 0 <= n && n <= 255 }
	ops := noOps()
	for op := 1; op <= last; op++ {
		ops = append(ops, op)
	}
	for _, op := range ops {
		for _, a := range edges() {
			for _, b := range edges() {
				want := false
				switch has(op) {
				case 0:
					want = a == 0 && b == 0
				case 1:
					want = fits(a) && b == 0
				case 2:
					want = fits(a) && fits(b)
				}
				wantGood(t, of(op, a, b), want)
			}
		}
	}
}

// fronts are bytes that are there already.
func fronts() [][]byte {
	return [][]byte{nil, {}, {9}, {0, 128, 255}, bytes.Repeat([]byte{200}, 100)}
}

// wantPut holds that an instruction's bytes stand behind others.
func wantPut(t *testing.T, i api.Instr, want ...byte) {
	t.Helper()
	for _, b := range fronts() {
		if got := inst.Put(b, i); !bytes.Equal(got, append(bytes.Clone(b), want...)) {
			t.Errorf("Put(%v, %v) = %v, want it and %v", b, i, got, want)
		}
	}
}

// P4.1: by the bytes themselves.
func TestPutBytes(t *testing.T) {
	wantPut(t, of(api.OpAdd), 7)
	wantPut(t, of(api.OpRet), 33)
	wantPut(t, of(api.OpPush, 0), 1, 0)
	wantPut(t, of(api.OpGet, 127), 3, 127)
	wantPut(t, of(api.OpJump, 128), 18, 128, 1)
	wantPut(t, of(api.OpCast, 255), 34, 255, 1)
	wantPut(t, of(api.OpVirt, 200, 3), 32, 200, 1, 3)
	wantPut(t, of(api.OpField, 0, 0), 27, 0, 0)
	wantPut(t, of(api.OpSetField, 5, 255), 28, 5, 255, 1)
}

// P4.1: numbers that it does not have are not put.
func TestPutCut(t *testing.T) {
	wantPut(t, of(api.OpAdd, 5, 6), 7)
	wantPut(t, of(api.OpNull, -5, 300), 2)
	wantPut(t, of(api.OpPush, 5, 6), 1, 5)
	wantPut(t, of(api.OpCall, 5, -6), 31, 5)
}

// P4.1: of what is no instruction Op alone.
func TestPutNone(t *testing.T) {
	wantPut(t, of(0, 5, 6), 0)
	wantPut(t, of(-1, 5, 6), 0)
	wantPut(t, of(math.MinInt, 5, 6), 0)
	wantPut(t, of(35, 5, 6), 35)
	wantPut(t, of(300, 5, 6), 172, 2)
	wantPut(t, of(256+api.OpField, 5, 6), 155, 2)
	wantPut(t, of(math.MaxInt, 5, 6), 255, 255, 255, 255, 255, 255, 255, 255, 127)
}

// P4.1: numbers that are no good are put as chapter 2's, too.
func TestPutWrong(t *testing.T) {
	wantPut(t, of(api.OpPush, -1), 1, 0)
	wantPut(t, of(api.OpPush, math.MinInt), 1, 0)
	wantPut(t, of(api.OpPush, 256), 1, 128, 2)
	wantPut(t, of(api.OpPush, 1<<14), 1, 128, 128, 1)
	wantPut(t, of(api.OpVirt, -1, -1), 32, 0, 0)
	wantPut(t, of(api.OpVirt, -1, 300), 32, 0, 172, 2)
	wantPut(t, of(api.OpVirt, 300, -1), 32, 172, 2, 0)
	wantPut(t, of(api.OpArr, math.MaxInt), 23, 255, 255, 255, 255, 255, 255, 255, 255, 127)
}

// P4.1: all instructions, and numbers of none, with numbers at and beyond
// their ends.
func TestPutEdges(t *testing.T) {
	ops := noOps()
	for op := 1; op <= last; op++ {
		ops = append(ops, op)
	}
	for _, op := range ops {
		for _, a := range edges() {
			for _, b := range edges() {
				i := of(op, a, b)
				wantPut(t, i, spelt(i)...)
			}
		}
	}
}

// P4.1, and R4: what is handed in stays as it is, spare room included, and
// what is answered shares nothing with it, or with another answer.
func TestPutMemory(t *testing.T) {
	for _, i := range []api.Instr{of(api.OpAdd), of(api.OpPush, 200), of(api.OpVirt, 200, 3), of(0), of(300, 1)} {
		for size := range 4 {
			whole := bytes.Repeat([]byte{9}, 30)
			got, again := inst.Put(whole[:size], i), inst.Put(whole[:size], i)
			if !bytes.Equal(whole, bytes.Repeat([]byte{9}, 30)) {
				t.Errorf("%v behind %d bytes: handed in, and now %v", i, size, whole)
			}
			want := bytes.Clone(got)
			for k := range again[:cap(again)] {
				again[:cap(again)][k] = 77
			}
			clear(whole)
			if !bytes.Equal(got, want) {
				t.Errorf("%v behind %d bytes: %v shares with others", i, size, got)
			}
			for k := range got[:cap(got)] {
				got[:cap(got)][k] = 66
			}
			if !bytes.Equal(whole, make([]byte, 30)) {
				t.Errorf("%v behind %d bytes: spare room is shared", i, size)
			}
		}
	}
}

// wantGet takes an instruction that has to be there.
func wantGet(t *testing.T, r *bits.Reader, want api.Instr) {
	t.Helper()
	if got := inst.Get(r); got != want || r.Bad() {
		t.Errorf("Get = %v, bad %v, want %v", got, r.Bad(), want)
	}
}

// wantBad holds what a Get of bytes with a fault comes to: what stands ahead
// of the fault, and 0 from there on; and nothing behind it.
func wantBad(t *testing.T, b []byte, want api.Instr) {
	t.Helper()
	r := bits.New(b)
	if got := inst.Get(r); got != want || !r.Bad() || r.End() {
		t.Errorf("Get of %v = %v, bad %v, end %v, want %v, bad", b, got, r.Bad(), r.End(), want)
	}
	for range 2 {
		if got := inst.Get(r); got != (api.Instr{}) || !r.Bad() {
			t.Errorf("Get behind the fault of %v = %v, bad %v", b, got, r.Bad())
		}
	}
}

// P4.1: what was put comes back, with nothing left, or just what lies behind.
func TestGetPut(t *testing.T) {
	for _, i := range good() {
		b := inst.Put(nil, i)
		r := bits.New(b)
		wantGet(t, r, i)
		if !r.End() {
			t.Errorf("%v: there is something left of %v", i, b)
		}
		r = bits.New(append(b, 5))
		wantGet(t, r, i)
		if n := r.Get(255); n != 5 || !r.End() {
			t.Errorf("%v: behind it is %d, end %v, want 5", i, n, r.End())
		}
	}
}

// P4.1: by the bytes themselves.
func TestGetBytes(t *testing.T) {
	r := bits.New([]byte{7, 1, 0, 3, 127, 32, 200, 1, 3, 28, 5, 255, 1, 33, 34, 255, 1})
	for _, want := range []api.Instr{of(api.OpAdd), of(api.OpPush, 0), of(api.OpGet, 127), of(api.OpVirt, 200, 3),
		of(api.OpSetField, 5, 255), of(api.OpRet), of(api.OpCast, 255)} {
		if r.End() {
			t.Errorf("at the end ahead of %v", want)
		}
		wantGet(t, r, want)
	}
	if !r.End() {
		t.Error("there is something left")
	}
}

// P4.1: all, one behind the other, and nothing behind them.
func TestGetAll(t *testing.T) {
	var b []byte
	for _, i := range good() {
		b = inst.Put(b, i)
	}
	r := bits.New(b)
	for _, i := range good() {
		wantGet(t, r, i)
	}
	if !r.End() {
		t.Error("there is something left")
	}
	if got := inst.Get(r); got != (api.Instr{}) || !r.Bad() {
		t.Errorf("Get at the end = %v, bad %v", got, r.Bad())
	}
}

// P4.1: cut off ahead of Op, of A, of B, and within each of them.
func TestGetCut(t *testing.T) {
	wantBad(t, nil, of(0))
	wantBad(t, []byte{}, of(0))
	wantBad(t, []byte{128}, of(0))
	for op := 1; op <= last; op++ {
		if has(op) >= 1 {
			wantBad(t, []byte{byte(op)}, of(op))
			wantBad(t, []byte{byte(op), 200}, of(op))
		}
		if has(op) == 2 {
			wantBad(t, []byte{byte(op), 5}, of(op, 5))
			wantBad(t, []byte{byte(op), 200, 1}, of(op, 200))
			wantBad(t, []byte{byte(op), 200, 1, 128}, of(op, 200))
		}
	}
	// What lies behind the end of the list is not read.
	wantBad(t, []byte{32, 5, 6}[:2], of(api.OpVirt, 5))
}

// P4.1: an Op above OpCast, and numbers above 255.
func TestGetTooGreat(t *testing.T) {
	for _, b := range [][]byte{{35}, {35, 5, 6}, {127, 1}, {128, 1, 1}, {129, 2, 5}, digits(1<<32 + 7), digits(math.MaxInt)} {
		wantBad(t, b, of(0))
	}
	for op := 1; op <= last; op++ {
		for _, n := range []int{256, 257, 300, 1 << 14, 1 << 32, 1<<35 - 1, 1 << 35, math.MaxInt} {
			if has(op) >= 1 {
				wantBad(t, append(append([]byte{byte(op)}, digits(n)...), 5), of(op))
			}
			if has(op) == 2 {
				wantBad(t, append([]byte{byte(op), 9}, digits(n)...), of(op, 9))
			}
		}
	}
}

// P4.1: numbers of more bytes than they need are none.
func TestGetLonger(t *testing.T) {
	wantBad(t, []byte{135, 0}, of(0))
	wantBad(t, []byte{1, 133, 0}, of(api.OpPush))
	wantBad(t, []byte{27, 133, 0, 5}, of(api.OpField))
	wantBad(t, []byte{27, 5, 133, 0}, of(api.OpField, 5))
}

// P4.1: an Op of 0 is read, and is no instruction; it has no numbers.
func TestGetZero(t *testing.T) {
	r := bits.New([]byte{0, 0, 1, 5, 0})
	wantGet(t, r, of(0))
	wantGet(t, r, of(0))
	wantGet(t, r, of(api.OpPush, 5))
	wantGet(t, r, of(0))
	if !r.End() {
		t.Error("there is something left")
	}
}

// P4.1: of no reader, and of one that is bad already.
func TestGetNoReader(t *testing.T) {
	for range 2 {
		if got := inst.Get(nil); got != (api.Instr{}) {
			t.Errorf("Get(nil) = %v", got)
		}
	}
	r := bits.New([]byte{7, 1, 5})
	r.Get(0)
	if got := inst.Get(r); got != (api.Instr{}) || !r.Bad() {
		t.Errorf("Get of a bad one = %v, bad %v", got, r.Bad())
	}
}

// stands is the instruction at the beginning of bytes of one number each, by
// the words of the chapter, and how many of them it takes; none: it is bad.
func stands(b []byte) (i api.Instr, size int) {
	if len(b) == 0 || b[0] > last {
		return of(0), 0
	}
	i.Op = int(b[0])
	n := max(has(i.Op), 0)
	if n >= 1 && len(b) >= 2 {
		i.A = int(b[1])
	}
	if n == 2 && len(b) >= 3 {
		i.B = int(b[2])
	}
	if len(b) < 1+n {
		return i, 0
	}
	return i, 1 + n
}

// P4.1: all short lists of small bytes.
func TestGetAgainstWords(t *testing.T) {
	var lists [][]byte
	for op := range byte(128) {
		lists = append(lists, []byte{op}, []byte{op, 0}, []byte{op, 7, 0}, []byte{op, 0, 127}, []byte{op, 8, 9, 7})
	}
	for _, b := range lists {
		want, size := stands(b)
		r := bits.New(b)
		got := inst.Get(r)
		if got != want || r.Bad() != (size == 0) || r.End() != (size > 0 && size == len(b)) {
			t.Errorf("Get of %v = %v, bad %v, end %v, want %v of %d bytes", b, got, r.Bad(), r.End(), want, size)
		}
	}
}
