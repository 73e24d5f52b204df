package tight_test

import (
	"fmt"
	"math"
	"slices"
	"testing"

	"plimsoll/api"
	"plimsoll/depth"
	"plimsoll/num"
	"plimsoll/tight"
	"plimsoll/typer"
)

// Some numbers by OpPush, and what they are.
func ints() []int32 { return []int32{0, 1, 2, 3, -1, 7, 255, 256, least, most} }

const (
	zero = iota
	one
	two
	three
	minus
	seven
	greatest
	above
	lowest
	highest
)

func push(n int) api.Instr { return op(api.OpPush, n) }

// Methods of tree.
const (
	main = iota
	plain
	other
	low
)

// tree has classes one below another, and one aside, and a method of some code,
// which has a local of each type: 0 a number, 1 an array, 2 to 5 references of
// the classes.
func tree(ret api.Type, code ...api.Instr) api.Image {
	slot := func(c, n int) api.Method {
		return method(number, types(ref(c), number), nil, push(n), second, add, op(api.OpRet))
	}
	return api.Image{
		Classes: []api.Class{
			{Super: -1, Fields: types(number, numbers), Slots: []int{plain}},
			{Super: 0, Fields: types(ref(0)), Slots: []int{other, plain}},
			{Super: 1, Fields: types(number), Slots: []int{other, low}},
			{Super: -1, Slots: nil},
		},
		Ints: ints(),
		Methods: []api.Method{
			method(ret, nil, types(number, numbers, ref(0), ref(1), ref(2), ref(3)), code...),
			slot(0, one), slot(0, two), slot(2, three),
		},
		Entries: []int{},
	}
}

// wantDone holds code of tree's main that gives a number to it, and to how many
// cells it takes.
func wantDone(t *testing.T, value int32, cells int, list ...api.Instr) {
	t.Helper()
	x := taken(t, tree(number, append(slices.Clone(list), ret)...))
	x.wantRun(t, main, nil, 99, api.Done, value, cells)
}

// wantTrap holds code of tree's main to a trap at its last instruction, and not
// ahead of it.
func wantTrap(t *testing.T, end, cells int, list ...api.Instr) {
	t.Helper()
	list = append(slices.Clone(list), op(api.OpJump, len(list)))
	x := taken(t, tree(nothing, list...))
	x.wantRun(t, main, nil, len(list)-2, api.Spent, 0, cells)
	x.wantRun(t, main, nil, len(list)-1, end, 0, 2*cells)
	x.wantRun(t, main, nil, 99, end, 0, 3*cells)
}

// P19.1: Frame: chapter 13's; 0, if there is no such method.
func TestFrame(t *testing.T) {
	// Operands by 0, 1 and 8; arguments and locals by 0 and more.
	eight := slices.Concat(many(8, push(one)), many(7, add), code(ret))
	m := tree(number, eight...)
	m.Methods = append(m.Methods,
		method(nothing, nil, nil, ret),
		method(nothing, many(4, number), many(4, numbers), ret),
		method(nothing, types(number), types(ref(2)), first, pop, ret))
	x := taken(t, m)
	for f, want := range []int{3 + 6 + 8, 3 + 2 + 2, 3 + 2 + 2, 3 + 2 + 2, 3, 3 + 8, 3 + 2 + 1} {
		if got := x.code.Frame(f); got != want || got != depth.Frame(x.m, x.maps, f) {
			t.Errorf("Frame(%d) = %d, want %d", f, got, want)
		}
	}
	for _, f := range []int{math.MinInt, -1 << 32, -7, -1, 7, 8, 1 << 32, math.MaxInt} {
		if got := x.code.Frame(f); got != 0 {
			t.Errorf("Frame(%d) = %d, want 0", f, got)
		}
	}
}

// P19.1: Clear: all cells are 0; as many are taken as there are statics, at most
// all.
func TestClear(t *testing.T) {
	for statics := range api.MaxStatics + 1 {
		m := tree(nothing, ret)
		m.Statics = slices.Clone(slices.Concat(types(number, numbers, ref(3)), many(5, ref(0)))[:statics])
		x := taken(t, m)
		for _, cells := range []int{0, 1, 2, 3, 5, 7, 8, 9, 20, 4096} {
			whole, heap := field(many(cells, int32(cells)-9), 5)
			if got := x.code.Clear(heap); got != min(statics, cells) {
				t.Errorf("Clear of %d cells = %d, of %d statics", cells, got, statics)
			}
			if want, _ := field(make([]int32, cells), 5); !slices.Equal(whole, want) {
				t.Errorf("Clear of %d cells leaves %v", cells, whole)
			}
		}
		if got := x.code.Clear(nil); got != 0 {
			t.Errorf("Clear(nil) = %d", got)
		}
	}
}

// P19.1: behind Clear an applet is as it was at first.
func TestClearAgain(t *testing.T) {
	m := tree(number, op(api.OpStatic), op(api.OpStatic), push(one), add, op(api.OpSetStatic),
		op(api.OpStatic, 1), isNull, push(two), op(api.OpArr, 2), op(api.OpSetStatic, 1), add, ret)
	m.Statics = types(number, numbers)
	x := taken(t, m)
	stack, heap := make([]int32, x.bound[main]), make([]int32, 50)
	for range 3 {
		used := x.code.Clear(heap)
		for round, want := range []int32{1, 1, 2, 3} {
			end, value, cells := x.code.Run(stack, heap, used, main, nil, 99)
			if end != api.Done || value != want || cells != 2+3*(round+1) {
				t.Errorf("Run = %d %d %d, want %d", end, value, cells, want)
			}
			used = cells
		}
	}
}

// P19.1: Spent, 0 and what is used, if there is no such method, or it has not as
// many arguments; no cell is changed.
func TestRunWrong(t *testing.T) {
	m := tree(number, push(seven), ret)
	m.Statics = types(number)
	m.Methods = append(m.Methods, method(number, many(4, number), nil, first, op(api.OpSetStatic), second, ret))
	x := taken(t, m)
	wrong := func(f, args int) {
		t.Helper()
		for _, used := range []int{math.MinInt, -1, 0, 1, 6, 7, math.MaxInt} {
			for _, fuel := range []int{math.MinInt, -1, 0, 1, 99} {
				stack, heap := many(30, int32(9)), many(6, int32(9))
				end, value, cells := x.code.Run(stack, heap, used, f, make([]int32, args), fuel)
				if end != api.Spent || value != 0 || cells != used {
					t.Errorf("Run(%d) of %d arguments = %d %d %d, want Spent 0 %d", f, args, end, value, cells, used)
				}
				if !slices.Equal(stack, many(30, int32(9))) || !slices.Equal(heap, many(6, int32(9))) {
					t.Errorf("Run(%d) of %d arguments has changed cells", f, args)
				}
			}
		}
	}
	for _, f := range []int{math.MinInt, -1 << 32, -5, -1, 5, 6, 1 << 32, math.MaxInt} {
		for n := range 6 {
			wrong(f, n)
		}
	}
	for f, need := range []int{0, 2, 2, 2, 4} {
		for n := range 7 {
			if n != need {
				wrong(f, n)
			}
		}
	}
}

// All calls of a nil *Code: nothing, 0, Spent.
func TestNil(t *testing.T) {
	var c *tight.Code
	for _, f := range []int{math.MinInt, -1, 0, 1, math.MaxInt} {
		if got := c.Frame(f); got != 0 {
			t.Errorf("Frame(%d) = %d", f, got)
		}
		for _, n := range []int{0, 1, 9} {
			stack, heap := many(n, int32(9)), many(n, int32(9))
			if got := c.Clear(heap); got != 0 {
				t.Errorf("Clear of %d cells = %d", n, got)
			}
			for _, used := range []int{math.MinInt, 0, 1, math.MaxInt} {
				for _, fuel := range []int{-1, 0, 1, math.MaxInt} {
					end, value, cells := c.Run(stack, heap, used, f, make([]int32, n), fuel)
					if end != api.Spent || value != 0 || cells != 0 {
						t.Errorf("Run(%d) = %d %d %d, want Spent 0 0", f, end, value, cells)
					}
				}
			}
			if !slices.Equal(stack, many(n, int32(9))) || !slices.Equal(heap, many(n, int32(9))) {
				t.Errorf("cells are changed: %v %v", stack, heap)
			}
		}
	}
}

// An applet of nothing, and one that nobody made by Make.
func TestEmpty(t *testing.T) {
	for _, c := range []*tight.Code{{}, tight.Make(api.Image{}, nil)} {
		heap := many(3, int32(9))
		if got := c.Clear(heap); got != 0 || !slices.Equal(heap, make([]int32, 3)) {
			t.Errorf("Clear = %d, and leaves %v", got, heap)
		}
		if end, value, cells := c.Run(nil, nil, 4, 0, nil, 9); end != api.Spent || value != 0 || cells != 4 || c.Frame(0) != 0 {
			t.Errorf("Run = %d %d %d", end, value, cells)
		}
	}
}

// P19.1: the arguments are numbers, as they are, and the locals behind them have
// first values.
func TestArguments(t *testing.T) {
	list := []int32{least, -1, 0, most}
	m := api.Image{Methods: []api.Method{
		method(nothing, nil, many(8, numbers), ret),
		method(number, nil, many(8, number), op(api.OpGet, 7), first, add, ret),
		method(number, nil, many(8, numbers), op(api.OpGet, 7), isNull, first, isNull, add, ret),
	}}
	for n := range list {
		m.Methods = append(m.Methods, method(number, many(4, number), types(number, numbers), op(api.OpGet, n), ret))
	}
	x := taken(t, m)
	x.wantRun(t, 0, nil, 9, api.Done, 0, 0)
	x.wantRun(t, 1, nil, 9, api.Done, 0, 0)
	x.wantRun(t, 2, nil, 9, api.Done, 2, 0)
	for range list {
		list = append(list[1:], list[0])
		for n, want := range list {
			x.wantRun(t, 3+n, list, 9, api.Done, want, 0)
		}
	}
}

// P19.1: a method that is no entry is run with numbers, too, also where it would
// have references: they lead to nothing.
func TestNumbersAsReferences(t *testing.T) {
	m := tree(number, op(api.OpNew, 2), op(api.OpSetStatic), op(api.OpStatic), isNull, ret)
	m.Statics = types(ref(0), numbers)
	args := types(ref(0), number, numbers)
	third := op(api.OpGet, 2)
	m.Methods = append(m.Methods,
		method(number, args, nil, first, op(api.OpField), ret),
		method(number, args, nil, first, second, op(api.OpVirt), ret),
		method(number, args, nil, third, length, ret),
		method(number, args, nil, first, isNull, third, isNull, add, first, third, same, add, second, add, ret),
		method(nothing, args, nil, third, op(api.OpSetStatic, 1), ret),
		method(number, nil, nil, op(api.OpStatic, 1), length, ret))
	x := taken(t, m)
	x.wantRun(t, main, nil, 9, api.Done, 0, 7)
	for _, n := range []int32{least, -1, 0, 1, 2, 3, 4, 7, 8, 255, most} {
		list := []int32{n, 7, n}
		for f := 4; f < 7; f++ {
			x.wantRun(t, f, list, 9, api.TrapNull, 0, 7)
		}
		x.wantRun(t, 7, list, 99, api.Done, 10, 7)
	}
	x.wantRun(t, 8, []int32{0, 7, 0}, 9, api.Done, 0, 7)
	x.wantRun(t, 9, nil, 9, api.TrapNull, 0, 7)
}

// P19.1: OpAdd to OpEqual are chapter 1's, of the deeper operand and the one
// above it; TrapDiv without an answer.
func TestNumbers(t *testing.T) {
	some := []int32{least, least + 1, -32, -8, -2, -1, 0, 1, 2, 3, 7, 31, 32, 33, 255, most - 1, most}
	for o := api.OpAdd; o <= api.OpEqual; o++ {
		x := taken(t, api.Image{Methods: []api.Method{method(number, types(number, number), nil, first, second, op(o), ret)}})
		for _, a := range some {
			for _, b := range some {
				if n, ok := num.Do(o, a, b); ok {
					x.wantRun(t, 0, []int32{a, b}, 4, api.Done, n, 0)
				} else {
					x.wantRun(t, 0, []int32{a, b}, 3, api.TrapDiv, 0, 0)
				}
			}
		}
	}
	wantDone(t, -3, 0, push(seven), push(minus), op(api.OpMul), push(two), op(api.OpDiv))
	wantDone(t, -1, 0, push(seven), push(minus), op(api.OpMul), push(two), op(api.OpRem))
	wantDone(t, least, 0, push(lowest), push(minus), op(api.OpDiv))
	wantDone(t, least, 0, push(highest), push(one), add)
	wantDone(t, 5, 0, push(seven), push(two), sub)
	wantDone(t, 1, 0, push(two), push(seven), op(api.OpLess))
	wantTrap(t, api.TrapDiv, 0, push(seven), push(zero), op(api.OpDiv))
	wantTrap(t, api.TrapDiv, 0, push(zero), push(zero), op(api.OpRem))
}

// P19.1: OpPush, OpGet, OpPut, OpPop, OpDup, OpNull.
func TestOperands(t *testing.T) {
	for n, want := range ints() {
		wantDone(t, want, 0, push(n))
		wantDone(t, want, 0, push(n), dup, pop)
		wantDone(t, want, 0, push(n), push(seven), pop)
		wantDone(t, want, 0, push(n), op(api.OpPut), push(seven), pop, first)
	}
	wantDone(t, 0, 0, first)
	wantDone(t, 14, 0, push(seven), dup, add)
	wantDone(t, 1, 0, null, isNull)
	wantDone(t, 1, 0, null, op(api.OpPut, 1), second, isNull)
	wantDone(t, 0, 5, op(api.OpNew, 2), op(api.OpPut, 2), op(api.OpGet, 2), isNull)
	wantDone(t, 1, 5, op(api.OpNew, 2), op(api.OpPut, 2), null, op(api.OpPut, 2), op(api.OpGet, 2), isNull)
	wantDone(t, 7, 0, push(seven), op(api.OpPut), null, op(api.OpPut, 5), first)
	// As many operands as there may be.
	wantDone(t, 8, 0, slices.Concat(many(8, push(one)), many(7, add))...)
}

// P19.1: OpIsNull of all that leads somewhere, or does not; OpSame: the same, or
// both nothing.
func TestReferences(t *testing.T) {
	x := []struct {
		cells int
		make  []api.Instr
	}{{2, code(push(one), op(api.OpArr, 9))}, {3, code(op(api.OpNew, 0))}, {5, code(op(api.OpNew, 2))}, {1, code(op(api.OpNew, 3))}}
	for _, a := range x {
		wantDone(t, 0, a.cells, slices.Concat(a.make, code(isNull))...)
		wantDone(t, 1, a.cells, slices.Concat(a.make, code(dup, same))...)
		wantDone(t, 0, a.cells, slices.Concat(a.make, code(null, same))...)
		wantDone(t, 0, a.cells, slices.Concat(code(null), a.make, code(same))...)
		for _, b := range x {
			wantDone(t, 0, a.cells+b.cells, slices.Concat(a.make, b.make, code(same))...)
		}
	}
	for l := 1; l < 6; l++ {
		wantDone(t, 1, 0, op(api.OpGet, l), isNull)
		wantDone(t, 1, 0, op(api.OpGet, l), null, same)
		wantDone(t, 1, 0, op(api.OpGet, l), op(api.OpGet, 1+l%5), same)
	}
	wantDone(t, 1, 0, null, null, same)
	// The same behind a local, a field, a cast.
	wantDone(t, 1, 5, op(api.OpNew, 2), dup, op(api.OpPut, 2), op(api.OpGet, 2), same)
	wantDone(t, 1, 5, op(api.OpNew, 2), dup, op(api.OpCast, 0), same)
	wantDone(t, 1, 4, op(api.OpNew, 1), op(api.OpPut, 3), op(api.OpGet, 3), dup, op(api.OpSetField, 1, 2),
		op(api.OpGet, 3), op(api.OpField, 1, 2), op(api.OpGet, 3), same)
}

// P19.1: a thing without cells, the first one of an applet without statics, is
// something, too.
func TestFirstThing(t *testing.T) {
	for _, x := range [][]api.Instr{code(op(api.OpNew, 3)), code(push(zero), op(api.OpArr, 0))} {
		wantDone(t, 0, 1, slices.Concat(x, code(isNull))...)
		wantDone(t, 0, 1, slices.Concat(x, code(null, same))...)
		wantDone(t, 0, 2, slices.Concat(x, x, code(same))...)
	}
	wantDone(t, 0, 1, push(zero), op(api.OpArr, 0), length)
	wantDone(t, 0, 1, op(api.OpNew, 3), op(api.OpCast, 3), isNull)
}

// P19.1: OpZero goes to A of 0 alone, else to the next one; OpJump goes to A.
func TestJumps(t *testing.T) {
	for n, k := range ints() {
		want := int32(2)
		if k == 0 {
			want = 3
		}
		wantDone(t, want, 0, push(n), op(api.OpZero, 4), push(two), ret, push(three))
		// Backwards, once.
		x := taken(t, api.Image{Ints: ints(), Methods: []api.Method{
			method(number, types(number), nil, op(api.OpJump, 3), push(seven), ret, first, op(api.OpZero, 1), push(two), ret)}})
		if k == 0 {
			x.wantRun(t, 0, []int32{k}, 5, api.Done, 7, 0)
		} else {
			x.wantRun(t, 0, []int32{k}, 5, api.Done, 2, 0)
		}
	}
	// Down from a number, to 0: 1 step ahead, 7 a round, 4 behind.
	x := taken(t, api.Image{Ints: ints(), Methods: []api.Method{
		method(number, types(number), nil, op(api.OpJump, 5), first, push(one), sub, op(api.OpPut), first, op(api.OpZero, 8), op(api.OpJump, 1), first, ret)}})
	for n := range 20 {
		x.wantRun(t, 0, []int32{int32(n)}, 4+7*n, api.Spent, 0, 0)
		x.wantRun(t, 0, []int32{int32(n)}, 5+7*n, api.Done, 0, 0)
	}
}

// P19.1: OpArr: as many numbers 0; TrapSize below 0, and above A. It takes 1 and
// as many cells as it has, not as it might have.
func TestArr(t *testing.T) {
	for _, limit := range []int{0, 1, 2, 7, 254, 255} {
		x := taken(t, api.Image{Methods: []api.Method{
			method(number, types(number), nil, first, op(api.OpArr, limit), length, ret)}})
		cells := 0
		for _, n := range []int32{least, least + 1, -256, -255, -2, -1, 0, 1, 2, 6, 7, 8, 253, 254, 255, 256, 257, 65535, 65536, most - 1, most} {
			if n < 0 || int(n) > limit {
				x.wantRun(t, 0, []int32{n}, 2, api.TrapSize, 0, cells)
				continue
			}
			cells += 1 + int(n)
			x.wantRun(t, 0, []int32{n}, 4, api.Done, n, cells)
		}
	}
}

// P19.1: OpLoad, OpStore: TrapNull, then TrapIndex; each cell by itself.
func TestCells(t *testing.T) {
	m := tree(nothing, ret)
	m.Statics = types(numbers)
	at := method(number, types(number), nil, op(api.OpStatic), first, load, ret)
	to := method(nothing, types(number, number), nil, op(api.OpStatic), first, second, store, ret)
	keep := method(nothing, types(number), nil, first, op(api.OpArr, 9), op(api.OpSetStatic), ret)
	drop := method(nothing, nil, nil, null, op(api.OpSetStatic), ret)
	m.Methods = append(m.Methods, at, to, keep, drop)
	x := taken(t, m)
	indexes := []int32{least, -10, -1, 0, 1, 2, 3, 8, 9, 10, 65536, most}
	for _, n := range indexes { // there is none yet
		x.wantRun(t, 4, []int32{n}, 9, api.TrapNull, 0, 1)
		x.wantRun(t, 5, []int32{n, 5}, 9, api.TrapNull, 0, 1)
	}
	cells := 1
	for size := range 10 {
		cells += 1 + size
		x.wantRun(t, 6, []int32{int32(size)}, 9, api.Done, 0, cells)
		for k, n := range indexes {
			if n < 0 || int(n) >= size {
				x.wantRun(t, 4, []int32{n}, 3, api.TrapIndex, 0, cells)
				x.wantRun(t, 5, []int32{n, 5}, 4, api.TrapIndex, 0, cells)
				continue
			}
			x.wantRun(t, 4, []int32{n}, 9, api.Done, 0, cells)
			v := []int32{least, most, -1, 77}[k%4]
			x.wantRun(t, 5, []int32{n, v}, 9, api.Done, 0, cells)
			x.wantRun(t, 4, []int32{n}, 9, api.Done, v, cells)
		}
	}
	x.wantRun(t, 7, nil, 9, api.Done, 0, cells)
	x.wantRun(t, 4, []int32{0}, 9, api.TrapNull, 0, cells)
	x.wantRun(t, 4, []int32{-1}, 9, api.TrapNull, 0, cells)
}

// P19.1: OpLen: TrapNull; else how many.
func TestLen(t *testing.T) {
	wantTrap(t, api.TrapNull, 0, second, length)
	wantTrap(t, api.TrapNull, 0, null, length)
	wantDone(t, 0, 1, push(zero), op(api.OpArr, 255), length)
	wantDone(t, 255, 256, push(greatest), op(api.OpArr, 255), length)
}

// P19.1: OpField, OpSetField: TrapNull; those of what is above it come first.
func TestFields(t *testing.T) {
	for _, f := range [][]int{{0, 0}, {0, 1}, {1, 0}, {1, 1}, {1, 2}, {2, 3}} {
		c, n := f[0], f[1]
		get := op(api.OpField, c, n)
		wantTrap(t, api.TrapNull, 0, op(api.OpGet, 2+c), get)
		wantTrap(t, api.TrapNull, 0, null, get)
		value := null
		if n == 0 || n == 3 {
			value = push(seven)
		}
		wantTrap(t, api.TrapNull, 0, op(api.OpGet, 2+c), value, op(api.OpSetField, c, n))
	}
	// First values, of each class that has them.
	for c := range 3 {
		wantDone(t, 0, 3+c, op(api.OpNew, c), op(api.OpField, 0, 0))
		wantDone(t, 1, 3+c, op(api.OpNew, c), op(api.OpField, 0, 1), isNull)
	}
	wantDone(t, 1, 5, op(api.OpNew, 2), op(api.OpField, 1, 2), isNull)
	wantDone(t, 0, 5, op(api.OpNew, 2), op(api.OpField, 2, 3))
	// Put by a class above, got by one below.
	o := op(api.OpGet, 4)
	wantDone(t, 5, 9, op(api.OpNew, 2), op(api.OpPut, 4),
		o, push(seven), op(api.OpSetField, 0, 0), o, push(two), op(api.OpSetField, 2, 3),
		o, o, op(api.OpSetField, 1, 2), o, push(three), op(api.OpArr, 3), op(api.OpSetField, 0, 1),
		o, op(api.OpField, 1, 2), op(api.OpField, 0, 0), o, op(api.OpField, 2, 3), sub)
}

// P19.1: OpNew takes what the class's Size says, each time; nothing ever goes.
func TestThings(t *testing.T) {
	list := []api.Instr{}
	for c := range 4 {
		list = append(list, op(api.OpNew, c), pop)
	}
	m := tree(nothing, append(list, push(two), op(api.OpArr, 2), op(api.OpSetStatic), ret)...)
	m.Statics = types(numbers)
	x := taken(t, m)
	cells := 1
	for range 20 {
		for k, n := range []int{3, 3, 7, 7, 12, 12, 13, 13} { // by so many instructions
			cells += n
			x.wantRun(t, main, nil, k+1, api.Spent, 0, cells)
		}
		cells += 16
		x.wantRun(t, main, nil, 99, api.Done, 0, cells)
	}
}

// P19.1: OpCast: the same, of null, and of an object of it or below it; else
// TrapCast.
func TestCast(t *testing.T) {
	// Which classes are Below which.
	below := [][]bool{{true, false, false, false}, {true, true, false, false}, {true, true, true, false}, {false, false, false, true}}
	size := []int{3, 4, 5, 1}
	for c := range 4 {
		for a := range 4 {
			if below[c][a] {
				wantDone(t, 1, size[c], op(api.OpNew, c), dup, op(api.OpCast, a), same)
			} else {
				wantTrap(t, api.TrapCast, size[c], op(api.OpNew, c), op(api.OpCast, a))
			}
			wantDone(t, 1, 0, op(api.OpGet, 2+c), op(api.OpCast, a), isNull)
		}
		wantDone(t, 1, 0, null, op(api.OpCast, c), isNull)
	}
}

// P19.1: OpVirt: TrapNull; else the slot of the object's own class, with the
// arguments in their order.
func TestVirt(t *testing.T) {
	for c := range 3 {
		wantTrap(t, api.TrapNull, 0, op(api.OpGet, 2+c), push(seven), op(api.OpVirt, c, 0))
		wantTrap(t, api.TrapNull, 0, null, push(zero), op(api.OpVirt, c, 0))
		for a := range c + 1 {
			// Slot 0 adds 1 of class 0, 2 of those below it.
			wantDone(t, 7+int32(min(c, 1)+1), 3+c, op(api.OpNew, c), push(seven), op(api.OpVirt, a, 0))
		}
	}
	wantDone(t, 8, 4, op(api.OpNew, 1), push(seven), op(api.OpVirt, 1, 1))
	wantDone(t, 10, 5, op(api.OpNew, 2), push(seven), op(api.OpVirt, 1, 1))
	wantDone(t, 10, 5, op(api.OpNew, 2), push(seven), op(api.OpVirt, 2, 1))
	// What calls it has a longer frame than what is called, and back.
	m := tree(number, push(two), op(api.OpNew, 2), push(seven), op(api.OpVirt, 0, 0), sub, ret)
	for _, f := range []int{plain, other} {
		m.Methods[f].Locals = many(6, numbers)
	}
	taken(t, m).wantRun(t, main, nil, 99, api.Done, 2-9, 5)
}

// P19.1: OpStatic, OpSetStatic; statics are kept from run to run.
func TestStatics(t *testing.T) {
	m := tree(number, op(api.OpStatic, 1), ret)
	m.Statics = types(numbers, number, ref(0), number)
	keep := method(nothing, types(number, number), nil, first, op(api.OpSetStatic, 1), second, op(api.OpSetStatic, 3), ret)
	object := method(nothing, nil, nil, op(api.OpNew, 1), op(api.OpSetStatic, 2), ret)
	last := method(number, nil, nil, op(api.OpStatic, 3), ret)
	which := method(number, nil, nil, op(api.OpStatic), isNull, op(api.OpStatic, 2), isNull, add, ret)
	m.Methods = append(m.Methods, keep, object, last, which)
	x := taken(t, m)
	x.wantRun(t, main, nil, 9, api.Done, 0, 4)
	x.wantRun(t, 7, nil, 9, api.Done, 2, 4)
	x.wantRun(t, 4, []int32{least, most}, 9, api.Done, 0, 4)
	x.wantRun(t, main, nil, 9, api.Done, least, 4)
	x.wantRun(t, 6, nil, 9, api.Done, most, 4)
	x.wantRun(t, 5, nil, 9, api.Done, 0, 8)
	x.wantRun(t, 4, []int32{5, -5}, 3, api.Spent, 0, 8)
	x.wantRun(t, main, nil, 9, api.Done, 5, 8)
	x.wantRun(t, 6, nil, 9, api.Done, most, 8)
	x.wantRun(t, 7, nil, 9, api.Done, 1, 8)
	x.wantRun(t, 5, nil, 9, api.Done, 0, 12)
}

// P19.1: OpCall: the arguments in their order, locals with first values each
// time; OpRet: the result is the caller's last operand, none of Void.
func TestCalls(t *testing.T) {
	less := method(number, types(number, number), nil, first, second, sub, ret)
	void := method(nothing, types(number), types(number), first, second, first, op(api.OpPut, 1), ret)
	count := method(number, nil, types(number), first, push(one), add, dup, op(api.OpPut), ret)
	both := method(numbers, types(numbers, ref(0)), nil, second, first, ret)
	four := method(number, many(4, number), many(4, number), op(api.OpGet, 3), op(api.OpGet, 2), op(api.OpMul), second, sub, first, sub, dup, op(api.OpPut, 7), ret)
	m := tree(number, push(seven), push(two), op(api.OpCall, 4), push(three), op(api.OpCall, 5),
		op(api.OpCall, 6), op(api.OpCall, 6), add, add, ret)
	m.Methods = append(m.Methods, less, void, count, both, four)
	taken(t, m).wantRun(t, main, nil, 10+4+5+6+6, api.Done, 7, 0)
	// References go and come as they are.
	m.Methods[main].Code = code(push(three), op(api.OpArr, 3), op(api.OpNew, 2), op(api.OpCall, 7), length, ret)
	taken(t, m).wantRun(t, main, nil, 99, api.Done, 3, 9)
	// The caller's operands, and its locals, stay as they are.
	m.Methods[main].Code = code(push(seven), op(api.OpPut), push(greatest), push(one), push(two), push(three), push(seven),
		op(api.OpCall, 8), add, first, op(api.OpMul), ret) // 3 times 7, less 2 and 1, and 255, 7 times
	taken(t, m).wantRun(t, main, nil, 99, api.Done, (18+255)*7, 0)
}

// P19.1: the Value is the first method's result alone; 0 of Void, and of a
// reference, which is no number.
func TestValue(t *testing.T) {
	m := tree(nothing, op(api.OpCall, 4), push(two), ret)
	m.Methods = append(m.Methods, method(number, nil, nil, push(seven), ret),
		method(nothing, nil, nil, push(seven), ret),
		method(numbers, nil, nil, push(seven), op(api.OpArr, 7), ret),
		method(ref(0), nil, nil, op(api.OpNew, 1), ret),
		method(number, nil, nil, push(three), push(two), push(one), ret))
	x := taken(t, m)
	x.wantRun(t, 4, nil, 9, api.Done, 7, 0)
	x.wantRun(t, main, nil, 9, api.Done, 0, 0) // what it calls has a result
	x.wantRun(t, 5, nil, 9, api.Done, 0, 0)
	x.wantRun(t, 4, nil, 1, api.Spent, 0, 0) // not at its end
	x.wantRun(t, 6, nil, 9, api.Done, 0, 8)
	x.wantRun(t, 7, nil, 9, api.Done, 0, 12)
	x.wantRun(t, 8, nil, 9, api.Done, 1, 12) // the last one of three
}

// deep calls itself so often as its argument says, and answers that: 9 steps a
// call, of which 6 are ahead of the next one, and 4 for the last one.
func deep(depth int) api.Image {
	down := method(number, types(number), nil, first, op(api.OpZero, 9), first, push(one), sub, op(api.OpCall, 0),
		push(one), add, ret, push(zero), ret)
	down.Depth = depth
	return api.Image{Ints: ints(), Methods: []api.Method{down}, Entries: []int{0}}
}

// P19.1: TrapDepth, where a method is under way as often as Depth says already.
// There are just as many cells as so many frames need.
func TestDepth(t *testing.T) {
	for depth := 1; depth <= api.MaxDepth; depth++ {
		x := taken(t, deep(depth))
		if x.bound[0] != 6*depth {
			t.Fatalf("it takes %d cells", x.bound[0])
		}
		for n := range 12 {
			if n < depth { // n calls, which come back
				x.wantRun(t, 0, []int32{int32(n)}, 9*n+4, api.Done, int32(n), 0)
				continue
			}
			x.wantRun(t, 0, []int32{int32(n)}, 6*depth-1, api.Spent, 0, 0)
			x.wantRun(t, 0, []int32{int32(n)}, 6*depth, api.TrapDepth, 0, 0)
		}
	}
}

// P19.1: each method of a ring by its own Depth.
func TestDepthOfRings(t *testing.T) {
	ring := func(f int) api.Method {
		return method(nothing, types(number), nil, first, op(api.OpZero, 6), first, push(one), sub, op(api.OpCall, 1-f), ret)
	}
	for a := 1; a <= api.MaxDepth; a++ {
		for b := 1; b <= api.MaxDepth; b++ {
			m := api.Image{Ints: ints(), Methods: []api.Method{ring(0), ring(1)}, Entries: []int{0, 1}}
			m.Methods[0].Depth, m.Methods[1].Depth = a, b
			x := taken(t, m)
			calls := min(2*a, 2*b+1) // how many are under way, the first one being 0
			x.wantRun(t, 0, []int32{99}, 999, api.TrapDepth, 0, 0)
			x.wantRun(t, 0, []int32{int32(calls - 1)}, 7*(calls-1)+3, api.Done, 0, 0)
			x.wantRun(t, 0, []int32{int32(calls)}, 6*calls, api.TrapDepth, 0, 0)
		}
	}
}

// P19.1: Depth is of what is under way: calls that have come back do not count,
// nor do other methods; 0 is no bound. It is so of OpVirt, too.
func TestDepthOfOthers(t *testing.T) {
	for depth := range 3 {
		for _, call := range [][]api.Instr{
			{push(two), op(api.OpArr, 2), length, pop, op(api.OpNew, 0), push(one), op(api.OpCall, plain), pop},
			{push(two), op(api.OpArr, 2), length, pop, op(api.OpNew, 0), push(one), op(api.OpVirt, 0, 0), pop},
		} {
			m := tree(nothing, slices.Concat(call, call, call, call, code(ret))...)
			for f := range m.Methods {
				m.Methods[f].Depth = depth
			}
			x := taken(t, m)
			x.wantRun(t, main, nil, 4*12+1, api.Done, 0, 24)
			x.wantRun(t, main, nil, 4*12+1, api.Done, 0, 48) // nor do other runs
		}
	}
	// The slot of class 0 calls itself by the slot; that of class 1 comes back.
	m := tree(number, op(api.OpNew, 0), push(three), op(api.OpVirt, 0, 0), ret)
	m.Methods[plain] = method(number, types(ref(0), number), nil, second, op(api.OpZero, 10), first, second, push(one), sub,
		op(api.OpVirt, 0, 0), push(one), add, ret, second, ret)
	for depth := 1; depth < 6; depth++ {
		m.Methods[plain].Depth = depth
		x := taken(t, m)
		if depth >= 4 { // 3, 2, 1 and 0
			x.wantRun(t, main, nil, 3+3*10+4+1, api.Done, 3, 3)
		} else {
			x.wantRun(t, main, nil, 3+7*depth, api.TrapDepth, 0, 3)
		}
	}
	// Null comes ahead of the depth.
	m.Methods[plain].Code[2] = null
	m.Methods[plain].Depth = 1
	taken(t, m).wantRun(t, main, nil, 99, api.TrapNull, 0, 3)
}

// P19.1: up to its end, or fuel instructions.
func TestFuel(t *testing.T) {
	x := taken(t, deep(8))
	need := 9*3 + 4
	for fuel := -2; fuel < need+9; fuel++ {
		if fuel < need {
			x.wantRun(t, 0, []int32{3}, fuel, api.Spent, 0, 0)
		} else {
			x.wantRun(t, 0, []int32{3}, fuel, api.Done, 3, 0)
		}
	}
	x.wantRun(t, 0, []int32{3}, math.MinInt, api.Spent, 0, 0)
	x.wantRun(t, 0, []int32{3}, math.MaxInt, api.Done, 3, 0)
	ring := taken(t, api.Image{Methods: []api.Method{method(nothing, nil, nil, op(api.OpJump))}})
	ring.wantRun(t, 0, nil, api.MaxFuel, api.Spent, 0, 0)
}

// P19.1: a run that is spent, or has trapped, leaves what it has made, and put
// somewhere, to the next one.
func TestLeftBehind(t *testing.T) {
	for end, list := range map[int][]api.Instr{
		api.TrapNull:  {second, push(one), push(two), store, push(one), ret},
		api.TrapIndex: {op(api.OpStatic), push(highest), push(two), store, push(one), ret},
		api.TrapDiv:   {push(one), push(zero), op(api.OpRem), ret},
		api.TrapSize:  {push(above), op(api.OpArr, 255), op(api.OpSetStatic), push(one), ret},
		api.TrapCast:  {op(api.OpStatic, 2), op(api.OpCast, 3), pop, push(one), ret},
		api.TrapDepth: {first, op(api.OpCall, 4), ret},
		api.Spent:     {op(api.OpJump), push(one), ret},
	} {
		m := tree(number, push(two), op(api.OpArr, 2), op(api.OpSetStatic), push(seven), op(api.OpSetStatic, 1),
			op(api.OpNew, 1), op(api.OpSetStatic, 2), push(three), op(api.OpPut), op(api.OpNew, 3), op(api.OpPut, 5),
			push(seven), op(api.OpCall, 4), ret)
		m.Statics = types(numbers, number, ref(0))
		trap := method(number, types(number), types(numbers, ref(2)), list...)
		trap.Depth = 1
		look := method(number, nil, nil, op(api.OpStatic), length, op(api.OpStatic, 1), add, op(api.OpStatic, 2), isNull, add, ret)
		m.Methods = append(m.Methods, trap, look)
		x := taken(t, m)
		x.wantRun(t, 5, nil, 99, api.TrapNull, 0, 3)
		for n := range 3 {
			x.wantRun(t, main, nil, 99, end, 0, 3+8*(n+1))
			x.wantRun(t, 5, nil, 99, api.Done, 9, 3+8*(n+1))
		}
	}
}

// P19.1: a heap may lie elsewhere at each run, and another applet's behind it: a
// reference does not hang on that. Nor are there others' cells in a stack.
func TestElsewhere(t *testing.T) {
	m := tree(number, op(api.OpNew, 1), op(api.OpSetStatic), push(three), op(api.OpArr, 3), op(api.OpSetStatic, 1),
		op(api.OpStatic), op(api.OpStatic, 1), op(api.OpSetField, 0, 1), op(api.OpStatic), push(seven), op(api.OpSetField, 0, 0),
		op(api.OpCall, 4), ret)
	m.Statics = types(ref(1), numbers)
	m.Methods = append(m.Methods, method(number, nil, nil, op(api.OpStatic), op(api.OpField, 0, 0),
		op(api.OpStatic), op(api.OpField, 0, 1), length, add, ret))
	x := taken(t, m)
	arena := many(200, int32(3))
	stack := many(x.bound[main]+9, int32(4))
	region := func(place int) []int32 { return arena[place : place+30] }
	used, place := x.code.Clear(region(100)), 100
	for k, to := range []int{100, 0, 30, 170, 85, 86} {
		copy(region(to), region(place))
		place = to
		for n := range arena {
			if n < place || n >= place+used {
				arena[n] = int32(n)
			}
		}
		f := main
		if k > 0 {
			f = 4
		}
		end, value, cells := x.code.Run(stack[k:], region(place), used, f, nil, 99)
		if end != api.Done || value != 10 || cells != 10 {
			t.Errorf("Run at %d = %d %d %d", place, end, value, cells)
		}
		used = cells
	}
}

// roomy is a list with spare room, in which there is something.
func roomy[T any](list []T, spare T) []T {
	return append(slices.Clone(list), spare, spare, spare)[:len(list)]
}

// full is a list with its spare room.
func full[T any](list []T) []T { return list[:cap(list)] }

// fillUp writes over a list, spare room included.
func fillUp[T any](list []T, with T) {
	for k := range full(list) {
		full(list)[k] = with
	}
}

// whole is an image with its types, and the spare room of all their lists.
func whole(m api.Image, maps [][]api.Shape) string {
	list := []any{full(m.Ints), full(m.Statics), full(m.Entries), m.Stack, m.Heap}
	for _, c := range full(m.Classes) {
		list = append(list, c, full(c.Fields), full(c.Slots))
	}
	for _, x := range full(m.Methods) {
		list = append(list, x, full(x.Args), full(x.Locals), full(x.Code), full(x.Phi))
	}
	for _, shapes := range full(maps) {
		for _, s := range full(shapes) {
			list = append(list, s.Seen, full(s.Stack))
		}
	}
	return fmt.Sprint(list)
}

// busy keeps an object and an array, and calls a slot.
func busy(t *testing.T) *rig {
	t.Helper()
	m := tree(number, op(api.OpNew, 1), dup, op(api.OpSetStatic), push(three), op(api.OpArr, 3), op(api.OpSetStatic, 1),
		op(api.OpStatic), op(api.OpStatic, 1), op(api.OpSetField, 0, 1), dup, op(api.OpCast, 0), pop, push(seven), op(api.OpVirt, 0, 0), ret)
	m.Statics = types(ref(1), numbers, number)
	m.Methods[plain].Locals, m.Methods[other].Locals = types(numbers), types(number)
	m.Methods[other].Depth = 1
	return taken(t, m)
}

// R4: what is handed in is not changed, and not kept, spare room included; what
// lies in spare room does not count.
func TestKeepsNothing(t *testing.T) {
	x := busy(t)
	m, maps := x.m, x.maps
	for f := range m.Methods {
		y := &m.Methods[f]
		y.Args, y.Locals = roomy(y.Args, number), roomy(y.Locals, number)
		y.Code, y.Phi = roomy(y.Code, add), roomy(y.Phi, 9)
		maps[f] = roomy(maps[f], api.Shape{Seen: true, Stack: many(8, number)})
		for pc := range maps[f] {
			maps[f][pc].Stack = roomy(maps[f][pc].Stack, number)
		}
	}
	for c := range m.Classes {
		y := &m.Classes[c]
		y.Fields, y.Slots = roomy(y.Fields, number), roomy(y.Slots, low)
	}
	m.Classes = roomy(m.Classes, api.Class{Super: 0, Slots: []int{low}})
	m.Methods = roomy(m.Methods, method(number, nil, nil, push(one), ret))
	m.Ints, m.Statics, m.Entries = roomy(m.Ints, 7), roomy(m.Statics, number), roomy(m.Entries, main)
	maps = roomy(maps, nil)
	before := whole(m, maps)
	c := tight.Make(m, maps)
	run := func() {
		t.Helper()
		heap := make([]int32, 40)
		used := c.Clear(heap)
		for round := range 3 {
			end, value, cells := c.Run(make([]int32, x.bound[main]), heap, used, main, nil, 99)
			if end != api.Done || value != 9 || cells != 3+8*(round+1) {
				t.Errorf("Run = %d %d %d", end, value, cells)
			}
			used = cells
		}
		// Behind a reference to nothing there is a number.
		if end, value, _ := c.Run(make([]int32, x.bound[other]), heap, used, other, []int32{5, 7}, 99); end != api.Done || value != 9 {
			t.Errorf("Run of a slot = %d %d", end, value)
		}
		for f, want := range []int{12, 8, 8, 7, 0} {
			if got := c.Frame(f); got != want {
				t.Errorf("Frame(%d) = %d, want %d", f, got, want)
			}
		}
	}
	run()
	if whole(m, maps) != before {
		t.Errorf("it is changed: %s", told(m))
	}
	for f, y := range m.Methods {
		fillUp(y.Args, ref(77))
		fillUp(y.Locals, ref(77))
		fillUp(y.Code, op(77, 77, 77))
		fillUp(maps[f], api.Shape{Stack: many(3, number)})
	}
	for _, y := range m.Classes {
		fillUp(y.Fields, ref(77))
		fillUp(y.Slots, 77)
	}
	fillUp(m.Methods, api.Method{Depth: 1})
	fillUp(m.Classes, api.Class{Super: 77})
	fillUp(m.Ints, 77)
	fillUp(m.Statics, ref(77))
	run()
}

// R4, R5: two applets, and two regions of one, know nothing of each other; an
// argument may lie in the stack that is handed in beside it.
func TestApart(t *testing.T) {
	x, y := busy(t), taken(t, deep(8))
	one, two := make([]int32, 40), make([]int32, 40)
	a, b := x.code.Clear(one), x.code.Clear(two)
	stack := make([]int32, 60)
	for round := range 3 {
		for n := range int32(8) {
			stack[n] = n
			if end, value, cells := y.code.Run(stack, nil, 0, 0, stack[n:n+1], 99); end != api.Done || value != n || cells != 0 {
				t.Errorf("Run(%d) = %d %d %d", n, end, value, cells)
			}
		}
		_, _, a = x.code.Run(stack, one, a, main, nil, 6)
		end, value, cells := x.code.Run(stack, two, b, main, nil, 99)
		if b = cells; end != api.Done || value != 9 || b != a || b != 3+8*(round+1) {
			t.Errorf("Run = %d %d %d, and %d", end, value, cells, a)
		}
	}
	if slices.Equal(one, two) {
		t.Errorf("a run of 6 steps has done as much as one of all: %v", one)
	}
}

// R1: whatever lies in cells, and however few there are: each call is answered,
// and no cell behind those handed in is changed. Numbers at their ends, too.
func TestAnyCells(t *testing.T) {
	throw := dice(19)
	x, y := busy(t), taken(t, deep(8))
	some := func(n int) []int32 {
		list := make([]int32, throw(n))
		for k := range list {
			list[k] = []int32{least, -256, -2, -1, 0, 0, 1, 1, 2, 3, 4, 5, 9, 255, 65536, most}[throw(16)]
		}
		return list
	}
	var met [api.Spent + 1]int
	for range 100000 {
		stacks, stack := field(some(40), 77)
		heaps, heap := field(some(30), 77)
		used := []int{math.MinInt, -2, -1, 0, 1, 2, 3, 3, 3, 3, 5, 11, 29, 30, math.MaxInt - 1, math.MaxInt}[throw(16)]
		c, f, args := x.code, main, []int32(nil)
		switch throw(4) {
		case 0:
			c, args = y.code, []int32{int32(throw(9))}
		case 1:
			f, args = 1+throw(3), []int32{1, 2}
		}
		end, value, cells := c.Run(stack, heap, used, f, args, 60)
		met[end]++
		if end != api.Done && value != 0 {
			t.Fatalf("Run = %d %d", end, value)
		}
		if cells != used && (cells < used || cells > len(heap)) {
			t.Fatalf("Run = %d, and leaves %d of %d cells taken", end, cells, len(heap))
		}
		for _, list := range [][]int32{stacks, heaps} {
			if !slices.Equal(list[:margin], many(margin, int32(77))) || !slices.Equal(list[len(list)-margin:], many(margin, int32(77))) {
				t.Fatalf("cells that were not handed in are changed: %v", list)
			}
		}
	}
	if met[api.Done] < 1000 || met[api.Spent] < 1000 {
		t.Errorf("ends %v", met)
	}
}

// R1: of images that chapter 16 does not take in nothing is promised, but that
// calls are answered, and end.
func TestNotTakenIn(t *testing.T) {
	throw := dice(191)
	wild := func() int {
		return []int{math.MinInt, -1 << 32, -9, -2, -1, 0, 0, 1, 1, 2, 2, 3, 4, 5, 9, 64, 255}[throw(17)]
	}
	for range 10000 {
		m := tree(number, push(seven), ret)
		m.Statics = types(number, ref(0))
		maps, _, _, _ := typer.Check(m)
		for range 1 + throw(20) {
			x := &m.Methods[throw(len(m.Methods))]
			x.Code = slices.Insert(x.Code, throw(len(x.Code)+1), op(throw(api.OpCast+3)-1, wild(), wild()))
		}
		switch x := &m.Methods[throw(4)]; throw(6) {
		case 0:
			x.Depth = wild()
		case 1:
			m.Classes[throw(4)].Super = wild()
		case 2:
			m.Classes[0].Slots[0] = wild()
		case 3:
			x.Code, maps = nil, nil
		case 4:
			x.Args = append(slices.Clone(x.Args), many(throw(9), ref(wild()))...)
		}
		c := tight.Make(m, maps)
		heap := make([]int32, throw(60))
		used := c.Clear(heap)
		for f := -1; f < 6; f++ {
			args := []int32{1, 2}
			if f >= 0 && f < 4 {
				args = make([]int32, len(m.Methods[f].Args))
			}
			end, _, cells := c.Run(make([]int32, throw(60)), heap, used, f, args, 60)
			if end <= api.Going || end > api.Spent {
				t.Fatalf("Run = %d", end)
			}
			used = cells
		}
	}
}
