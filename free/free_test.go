package free_test

import (
	"fmt"
	"math"
	"slices"
	"testing"

	"plimsoll/admit"
	"plimsoll/api"
	"plimsoll/free"
	"plimsoll/image"
	"plimsoll/num"
	"plimsoll/pot"
	"plimsoll/typer"
)

const (
	least = math.MinInt32
	most  = math.MaxInt32
)

var (
	number  = api.Type{Kind: api.Int}
	numbers = api.Type{Kind: api.Arr}
	nothing = api.Type{Kind: api.Void}
)

func ref(n int) api.Type { return api.Type{Kind: api.Ref, N: n} }

// types is a list of them.
func types(list ...api.Type) []api.Type { return list }

// many is a list of so many like one.
func many[T any](n int, x T) []T { return slices.Repeat([]T{x}, n) }

// op is an instruction by its numbers, of which the last ones may lack.
func op(list ...int) api.Instr {
	list = append(list, 0, 0)
	return api.Instr{Op: list[0], A: list[1], B: list[2]}
}

// code is a list of instructions.
func code(list ...api.Instr) []api.Instr { return list }

// Instructions without numbers, and OpGet's.
var (
	load, store, length = op(api.OpLoad), op(api.OpStore), op(api.OpLen)
	pop, dup, ret       = op(api.OpPop), op(api.OpDup), op(api.OpRet)
	null, isNull, same  = op(api.OpNull), op(api.OpIsNull), op(api.OpSame)
	first, second       = op(api.OpGet), op(api.OpGet, 1)
)

func method(ret api.Type, args, locals []api.Type, code ...api.Instr) api.Method {
	return api.Method{Args: args, Locals: locals, Ret: ret, Code: code}
}

// Values as they ought to be.
func of(n int32) free.Value   { return free.Value{T: number, N: n} }
func none() free.Value        { return free.Value{T: api.Type{Kind: api.Null}} }
func arr(r int) free.Value    { return free.Value{T: numbers, R: r} }
func obj(c, r int) free.Value { return free.Value{T: ref(c), R: r} }

// told is the beginning of something: long ones would hide what is wrong.
func told(x any) string {
	text := fmt.Sprint(x)
	return text[:min(len(text), 600)]
}

// taken is an image that says what it needs: chapter 16 has to take it in.
func taken(t *testing.T, m api.Image) api.Image {
	t.Helper()
	m, e := said(m)
	if e != api.OK {
		t.Fatalf("%s is not taken in: %d", told(m), e)
	}
	return m
}

// said is an image that says what it needs, if it may.
func said(m api.Image) (api.Image, api.Errno) {
	m = image.Copy(m)
	for f := range m.Methods {
		m.Methods[f].Phi = make([]int, len(m.Methods[f].Code))
	}
	maps, _, _, e := typer.Check(m)
	if e != api.OK {
		return m, e
	}
	filled, ok := pot.Fill(m, maps)
	if !ok {
		return m, api.ErrPot
	}
	if filled.Stack, filled.Heap, e = admit.Needs(filled, maps); e != api.OK {
		return m, e
	}
	_, e = admit.Check(filled)
	return filled, e
}

// wantRun holds a run to what it comes to, and Value to the same.
func wantRun(t *testing.T, w *free.World, f int, args []int32, fuel, end int, value int32, steps int) {
	t.Helper()
	e, v, s := w.Run(f, args, fuel)
	if e != end || v != value || s != steps {
		t.Errorf("Run(%d, %v, %d) = %d %d %d, want %d %d %d", f, args, fuel, e, v, s, end, value, steps)
	}
	if w.Value() != value {
		t.Errorf("Value() = %d behind Run(%d, %v, %d), want %d", w.Value(), f, args, fuel, value)
	}
}

// wantBegun begins a run that has to begin.
func wantBegun(t *testing.T, w *free.World, f int, args ...int32) {
	t.Helper()
	if e := w.Begin(f, args); e != api.OK {
		t.Errorf("Begin(%d, %v) = %d", f, args, e)
	}
}

// wantStep holds some Steps to what each of them answers.
func wantStep(t *testing.T, w *free.World, ends ...int) {
	t.Helper()
	for k, end := range ends {
		if got := w.Step(); got != end {
			t.Errorf("Step() = %d as the %d. one, want %d", got, k+1, end)
		}
	}
}

func wantLive(t *testing.T, w *free.World, list ...int) {
	t.Helper()
	if got := w.Live(); !slices.Equal(got, list) {
		t.Errorf("Live() = %v, want %v", got, list)
	}
}

// values is a list of them.
func values(list ...free.Value) []free.Value { return list }

func wantTop(t *testing.T, w *free.World, f, pc int, locals, operands []free.Value) {
	t.Helper()
	g, at, its, ops, ok := w.Top()
	if g != f || at != pc || !slices.Equal(its, locals) || !slices.Equal(ops, operands) || !ok {
		t.Errorf("Top() = %d %d %v %v %v, want %d %d %v %v", g, at, its, ops, ok, f, pc, locals, operands)
	}
}

// wantIdle holds that nothing is under way.
func wantIdle(t *testing.T, w *free.World) {
	t.Helper()
	wantLive(t, w)
	f, pc, locals, operands, ok := w.Top()
	if f != 0 || pc != 0 || len(locals) != 0 || len(operands) != 0 || ok {
		t.Errorf("Top() = %d %d %v %v %v, want none", f, pc, locals, operands, ok)
	}
	wantStep(t, w, api.Done, api.Done)
}

// wantKept holds what statics and things have, and Cells by them.
func wantKept(t *testing.T, w *free.World, statics []free.Value, things ...free.Thing) {
	t.Helper()
	cells := len(statics)
	for _, x := range things {
		cells += 1 + len(x.Cells)
	}
	if got := w.Statics(); !slices.Equal(got, statics) {
		t.Errorf("Statics() = %s, want %s", told(got), told(statics))
	}
	if got := w.Things(); !slices.EqualFunc(got, things, sameThing) {
		t.Errorf("Things() = %s, want %s", told(got), told(things))
	}
	if w.Cells() != cells {
		t.Errorf("Cells() = %d, want %d", w.Cells(), cells)
	}
}

func sameThing(a, b free.Thing) bool {
	return a.Class == b.Class && slices.Equal(a.Cells, b.Cells)
}

// thing is one of a class; -1: an array.
func thing(class int, cells ...free.Value) free.Thing {
	return free.Thing{Class: class, Cells: cells}
}

// Some numbers by OpPush, and what they are.
func ints() []int32 { return []int32{0, 1, 2, 3, -1, 7, 255, 256, least, most} }

const (
	zero = iota
	one
	two
	three
	minus
	seven
	greatest
	above
	lowest
	highest
)

func push(n int) api.Instr { return op(api.OpPush, n) }

// Methods of tree.
const (
	main = iota
	plain
	other
	low
)

// tree has classes one below another, and one aside, and a method of some code,
// which has a local of each type: 0 a number, 1 an array, 2 to 5 references of
// the classes.
func tree(ret api.Type, code ...api.Instr) api.Image {
	slot := func(c, n int) api.Method {
		return method(number, types(ref(c), number), nil, push(n), second, op(api.OpAdd), op(api.OpRet))
	}
	return api.Image{
		Classes: []api.Class{
			{Super: -1, Fields: types(number, numbers), Slots: []int{plain}},
			{Super: 0, Fields: types(ref(0)), Slots: []int{other, plain}},
			{Super: 1, Fields: types(number), Slots: []int{other, low}},
			{Super: -1, Slots: nil},
		},
		Ints: ints(),
		Methods: []api.Method{
			method(ret, nil, types(number, numbers, ref(0), ref(1), ref(2), ref(3)), code...),
			slot(0, one), slot(0, two), slot(2, three),
		},
		Entries: []int{},
	}
}

// wantEnd holds a run of tree's main to what it comes to, and to taking all of
// its code one behind the other: for a trap so many instructions.
func wantEnd(t *testing.T, end int, value int32, steps int, code ...api.Instr) {
	t.Helper()
	ends := code
	if end != api.Done { // what would be behind it
		ends = slices.Concat(code, []api.Instr{op(api.OpJump, len(code))})
	}
	r := number
	if end != api.Done {
		r = nothing
	}
	w := free.New(taken(t, tree(r, ends...)))
	wantRun(t, w, main, nil, 999, end, value, steps)
	if end == api.Done {
		wantIdle(t, w)
	} else {
		wantStep(t, w, end, end)
	}
}

// wantDone holds code that gives a number, and no call among it, to it.
func wantDone(t *testing.T, value int32, list ...api.Instr) {
	t.Helper()
	wantEnd(t, api.Done, value, len(list)+1, append(slices.Clone(list), ret)...)
}

// wantTrap holds code to a trap at its last instruction.
func wantTrap(t *testing.T, end int, list ...api.Instr) {
	t.Helper()
	wantEnd(t, end, 0, len(list), list...)
}

// P18.1: statics have first values, and there are no things.
func TestNew(t *testing.T) {
	m := tree(nothing, ret)
	m.Statics = types(number, numbers, ref(0), ref(3), number)
	w := free.New(taken(t, m))
	wantKept(t, w, values(of(0), none(), none(), none(), of(0)))
	wantIdle(t, w)
	if w.Value() != 0 {
		t.Errorf("Value() = %d", w.Value())
	}
	w = free.New(api.Image{})
	wantKept(t, w, nil)
	wantIdle(t, w)
	wantRun(t, w, 0, nil, 9, api.Spent, 0, 0)
}

// P18.1: Begin: ErrArg of methods that there are not, and of too few or too many
// arguments; nothing changes then.
func TestBeginWrong(t *testing.T) {
	m := tree(number, push(seven), ret)
	m.Methods = append(m.Methods, method(number, many(4, number), nil, first, ret))
	w := free.New(taken(t, m))
	wrong := func() {
		t.Helper()
		for _, f := range []int{math.MinInt, -1 << 32, -5, -1, 5, 6, 1 << 32, math.MaxInt} {
			for n := range 6 {
				if e := w.Begin(f, make([]int32, n)); e != api.ErrArg {
					t.Errorf("Begin(%d) of %d arguments = %d, want ErrArg", f, n, e)
				}
			}
		}
		for f, need := range []int{0, 2, 2, 2, 4} {
			for n := range 7 {
				if n == need {
					continue
				}
				if e := w.Begin(f, make([]int32, n)); e != api.ErrArg {
					t.Errorf("Begin(%d) of %d arguments = %d, want ErrArg", f, n, e)
				}
				for _, fuel := range []int{-1, 0, 1, 9} {
					if end, v, s := w.Run(f, make([]int32, n), fuel); end != api.Spent || v != 0 || s != 0 {
						t.Errorf("Run(%d) of %d arguments = %d %d %d, want Spent", f, n, end, v, s)
					}
				}
			}
		}
	}
	wrong()
	wantIdle(t, w)
	wantBegun(t, w, main)
	wantStep(t, w, api.Going)
	wrong()
	wantTop(t, w, main, 1, values(of(0), none(), none(), none(), none(), none()), values(of(7)))
	wantStep(t, w, api.Done)
	wrong()
	wantIdle(t, w)
	if w.Value() != 7 {
		t.Errorf("Value() = %d behind a Begin of nothing, want 7", w.Value())
	}
}

// P18.1: Begin: the arguments are numbers, as they are, and the locals behind
// them have first values.
func TestBegin(t *testing.T) {
	list := []int32{least, -1, 0, most}
	m := api.Image{Methods: []api.Method{
		method(number, many(4, number), types(number, numbers), second, ret),
		method(nothing, nil, many(8, numbers), ret),
		method(nothing, nil, nil, ret),
	}}
	w := free.New(taken(t, m))
	wantBegun(t, w, 0, list...)
	wantLive(t, w, 0)
	wantTop(t, w, 0, 0, values(of(least), of(-1), of(0), of(most), of(0), none()), nil)
	wantBegun(t, w, 1)
	wantLive(t, w, 1)
	wantTop(t, w, 1, 0, many(8, none()), nil)
	wantBegun(t, w, 2)
	wantLive(t, w, 2)
	wantTop(t, w, 2, 0, nil, nil)
	wantBegun(t, w, 2) // again, though it is under way
	wantLive(t, w, 2)
	wantStep(t, w, api.Done)
	wantIdle(t, w)
	for n := range list {
		slices.Reverse(list[n:])
		wantRun(t, w, 0, list, 9, api.Done, list[1], 2)
	}
}

// P18.1: a method that is no entry is begun with numbers, too, also where it
// would have references: they lead to nothing.
func TestBeginReferences(t *testing.T) {
	m := tree(nothing, ret)
	m.Methods = append(m.Methods,
		method(number, types(ref(0), numbers), nil, first, op(api.OpField), ret),
		method(number, types(ref(0), numbers), nil, second, length, ret),
		method(number, types(ref(0), numbers), nil, first, op(api.OpVirt), ret))
	m.Methods[6].Code = code(first, push(one), op(api.OpVirt), ret)
	w := free.New(taken(t, m))
	for f := 4; f < 7; f++ {
		wantBegun(t, w, f, 1, -2)
		wantTop(t, w, f, 0, values(of(1), of(-2)), nil)
		wantRun(t, w, f, []int32{1, 1}, 9, api.TrapNull, 0, []int{2, 2, 3}[f-4])
	}
}

// P18.1: OpAdd to OpEqual are chapter 1's, of the deeper operand and the one
// above it; TrapDiv without an answer.
func TestNumbers(t *testing.T) {
	some := []int32{least, least + 1, -32, -8, -2, -1, 0, 1, 2, 3, 7, 31, 32, 33, 255, most - 1, most}
	for o := api.OpAdd; o <= api.OpEqual; o++ {
		w := free.New(taken(t, api.Image{Methods: []api.Method{method(number, types(number, number), nil, first, second, op(o), ret)}}))
		for _, a := range some {
			for _, b := range some {
				if n, ok := num.Do(o, a, b); ok {
					wantRun(t, w, 0, []int32{a, b}, 9, api.Done, n, 4)
				} else {
					wantRun(t, w, 0, []int32{a, b}, 9, api.TrapDiv, 0, 3)
				}
			}
		}
	}
	wantDone(t, 255, push(greatest))
	wantDone(t, -3, push(seven), push(minus), op(api.OpMul), push(two), op(api.OpDiv))
	wantDone(t, -1, push(seven), push(minus), op(api.OpMul), push(two), op(api.OpRem))
	wantDone(t, least, push(lowest), push(minus), op(api.OpDiv))
	wantDone(t, 0, push(lowest), push(minus), op(api.OpRem))
	wantDone(t, least, push(highest), push(one), op(api.OpAdd))
	wantDone(t, 5, push(seven), push(two), op(api.OpSub))
	wantDone(t, 1, push(two), push(seven), op(api.OpLess))
	wantDone(t, 0, push(seven), push(two), op(api.OpLess))
	wantTrap(t, api.TrapDiv, push(seven), push(zero), op(api.OpDiv))
	wantTrap(t, api.TrapDiv, push(zero), push(zero), op(api.OpRem))
}

// P18.1: OpPush, OpGet, OpPut, OpPop, OpDup, OpNull.
func TestOperands(t *testing.T) {
	for n, want := range ints() {
		wantDone(t, want, push(n))
		wantDone(t, want, push(n), dup, pop)
		wantDone(t, want, push(n), push(seven), pop)
		wantDone(t, want, push(n), op(api.OpPut), push(seven), pop, first)
	}
	wantDone(t, 0, first)
	wantDone(t, 14, push(seven), dup, op(api.OpAdd))
	wantDone(t, 1, null, isNull)
	wantDone(t, 1, null, op(api.OpPut, 1), second, isNull)
	wantDone(t, 0, op(api.OpNew, 2), op(api.OpPut, 2), op(api.OpGet, 2), isNull)
	wantDone(t, 7, push(seven), op(api.OpPut), null, op(api.OpPut, 5), first)
}

// P18.1: OpIsNull of all that leads somewhere, or does not; OpSame: the same, or
// both nothing.
func TestReferences(t *testing.T) {
	a := code(push(one), op(api.OpArr, 9))
	o, p := code(op(api.OpNew, 0)), code(op(api.OpNew, 2))
	n := code(null)
	for _, x := range [][]api.Instr{a, o, p} {
		wantDone(t, 0, slices.Concat(x, code(isNull))...)
		wantDone(t, 1, slices.Concat(x, code(dup, same))...)
		wantDone(t, 0, slices.Concat(x, x, code(same))...)
		wantDone(t, 0, slices.Concat(x, n, code(same))...)
		wantDone(t, 0, slices.Concat(n, x, code(same))...)
	}
	wantDone(t, 0, slices.Concat(o, p, code(same))...)
	wantDone(t, 0, slices.Concat(a, o, code(same))...) // an array and an object
	for l := 1; l < 6; l++ {
		wantDone(t, 1, op(api.OpGet, l), isNull)
		wantDone(t, 1, op(api.OpGet, l), null, same)
		wantDone(t, 1, op(api.OpGet, l), op(api.OpGet, 1+l%5), same)
	}
	wantDone(t, 1, null, null, same)
	// The same behind a local, a field, a cast.
	wantDone(t, 1, op(api.OpNew, 2), dup, op(api.OpPut, 2), op(api.OpGet, 2), same)
	wantDone(t, 1, op(api.OpNew, 2), dup, op(api.OpCast, 0), same)
	wantDone(t, 1, op(api.OpNew, 1), op(api.OpPut, 3), op(api.OpGet, 3), dup, op(api.OpSetField, 1, 2),
		op(api.OpGet, 3), op(api.OpField, 1, 2), op(api.OpGet, 3), same)
}

// P18.1: OpZero goes to A of 0 alone, else to the next one; OpJump goes to A.
func TestJumps(t *testing.T) {
	for n, k := range ints() {
		want, steps := int32(2), 4
		if k == 0 {
			want = 3
		}
		wantEnd(t, api.Done, want, steps, push(n), op(api.OpZero, 4), push(two), ret, push(three), ret)
		// Backwards, once.
		w := free.New(taken(t, api.Image{Ints: ints(), Methods: []api.Method{
			method(number, types(number), nil, op(api.OpJump, 3), push(seven), ret, first, op(api.OpZero, 1), push(two), ret)}}))
		if k == 0 {
			wantRun(t, w, 0, []int32{k}, 9, api.Done, 7, 5)
		} else {
			wantRun(t, w, 0, []int32{k}, 9, api.Done, 2, 5)
		}
	}
	// Down from a number, to 0: 1 step ahead, 7 a round, 4 behind.
	w := free.New(taken(t, api.Image{Ints: ints(), Methods: []api.Method{
		method(number, types(number), nil, op(api.OpJump, 5), first, push(one), op(api.OpSub), op(api.OpPut), first, op(api.OpZero, 8), op(api.OpJump, 1), first, ret)}}))
	for n := range 20 {
		wantRun(t, w, 0, []int32{int32(n)}, 999, api.Done, 0, 5+7*n)
	}
}

// P18.1: OpArr: as many numbers 0; TrapSize below 0, and above A.
func TestArr(t *testing.T) {
	for _, limit := range []int{0, 1, 2, 7, 254, 255} {
		m := api.Image{Methods: []api.Method{
			method(number, types(number), nil, first, op(api.OpArr, limit), length, ret)}}
		m = taken(t, m)
		for _, n := range []int32{least, least + 1, -256, -255, -2, -1, 0, 1, 2, 6, 7, 8, 253, 254, 255, 256, 257, 65535, 65536, most - 1, most} {
			w := free.New(m)
			if n < 0 || int(n) > limit {
				wantRun(t, w, 0, []int32{n}, 9, api.TrapSize, 0, 2)
				wantKept(t, w, nil)
				continue
			}
			wantRun(t, w, 0, []int32{n}, 9, api.Done, n, 4)
			wantKept(t, w, nil, thing(-1, many(int(n), of(0))...))
		}
	}
}

// P18.1: OpLoad, OpStore: TrapNull, then TrapIndex; each cell by itself.
func TestCells(t *testing.T) {
	m := tree(nothing, ret)
	m.Statics = types(numbers)
	at := method(number, types(number), nil, op(api.OpStatic), first, load, ret)
	to := method(nothing, types(number, number), nil, op(api.OpStatic), first, second, store, ret)
	keep := method(nothing, types(number), nil, first, op(api.OpArr, 9), op(api.OpSetStatic), ret)
	drop := method(nothing, nil, nil, null, op(api.OpSetStatic), ret)
	m.Methods = append(m.Methods, at, to, keep, drop)
	w := free.New(taken(t, m))
	indexes := []int32{least, -10, -1, 0, 1, 2, 3, 8, 9, 10, 65536, most}
	for _, n := range indexes { // there is none yet
		wantRun(t, w, 4, []int32{n}, 9, api.TrapNull, 0, 3)
		wantRun(t, w, 5, []int32{n, 5}, 9, api.TrapNull, 0, 4)
	}
	things := []free.Thing{}
	for size := range 10 {
		wantRun(t, w, 6, []int32{int32(size)}, 9, api.Done, 0, 4)
		things = append(things, thing(-1, many(size, of(0))...))
		list := things[size].Cells
		for k, n := range indexes {
			if n < 0 || int(n) >= size {
				wantRun(t, w, 4, []int32{n}, 9, api.TrapIndex, 0, 3)
				wantRun(t, w, 5, []int32{n, 5}, 9, api.TrapIndex, 0, 4)
				continue
			}
			wantRun(t, w, 4, []int32{n}, 9, api.Done, 0, 4)
			list[n] = of([]int32{least, most, -1, 77}[k%4])
			wantRun(t, w, 5, []int32{n, list[n].N}, 9, api.Done, 0, 5)
			wantRun(t, w, 4, []int32{n}, 9, api.Done, list[n].N, 4)
		}
		wantKept(t, w, values(arr(size+1)), things...)
	}
	wantRun(t, w, 7, nil, 9, api.Done, 0, 3)
	wantKept(t, w, values(none()), things...)
	wantRun(t, w, 4, []int32{0}, 9, api.TrapNull, 0, 3)
	wantRun(t, w, 4, []int32{-1}, 9, api.TrapNull, 0, 3)
}

// P18.1: OpLen: TrapNull; else how many.
func TestLen(t *testing.T) {
	wantTrap(t, api.TrapNull, second, length)
	wantTrap(t, api.TrapNull, null, length)
	wantDone(t, 0, push(zero), op(api.OpArr, 255), length)
	wantDone(t, 255, push(greatest), op(api.OpArr, 255), length)
}

// P18.1: OpField, OpSetField: TrapNull; those of what is above it come first.
func TestFields(t *testing.T) {
	for _, f := range [][]int{{0, 0}, {0, 1}, {1, 0}, {1, 1}, {1, 2}, {2, 3}} {
		c, n := f[0], f[1]
		get := op(api.OpField, c, n)
		wantTrap(t, api.TrapNull, op(api.OpGet, 2+c), get)
		wantTrap(t, api.TrapNull, null, get)
		value := null
		if n == 0 || n == 3 {
			value = push(seven)
		}
		wantTrap(t, api.TrapNull, op(api.OpGet, 2+c), value, op(api.OpSetField, c, n))
	}
	// First values, of each class that has them.
	for c := range 3 {
		wantDone(t, 0, op(api.OpNew, c), op(api.OpField, 0, 0))
		wantDone(t, 1, op(api.OpNew, c), op(api.OpField, 0, 1), isNull)
	}
	wantDone(t, 1, op(api.OpNew, 2), op(api.OpField, 1, 2), isNull)
	wantDone(t, 0, op(api.OpNew, 2), op(api.OpField, 2, 3))
	// Put by a class above, got by one below.
	to := op(api.OpPut, 4)
	o := op(api.OpGet, 4)
	w := free.New(taken(t, tree(number, op(api.OpNew, 2), to,
		o, push(seven), op(api.OpSetField, 0, 0), o, push(two), op(api.OpSetField, 2, 3),
		o, o, op(api.OpSetField, 1, 2), o, push(three), op(api.OpArr, 3), op(api.OpSetField, 0, 1),
		o, op(api.OpField, 1, 2), op(api.OpField, 0, 0), o, op(api.OpField, 2, 3), op(api.OpSub), ret)))
	wantRun(t, w, main, nil, 99, api.Done, 5, 22)
	wantKept(t, w, nil, thing(2, of(7), arr(2), obj(2, 1), of(2)), thing(-1, of(0), of(0), of(0)))
}

// P18.1: objects have their class's Fields, with first values, and are numbered
// as they are made; none ever goes.
func TestThings(t *testing.T) {
	list := []api.Instr{}
	for c := range 4 {
		list = append(list, op(api.OpNew, c), pop)
	}
	m := tree(nothing, append(list, push(two), op(api.OpArr, 2), op(api.OpSetStatic), ret)...)
	m.Statics = types(numbers)
	w := free.New(taken(t, m))
	var things []free.Thing
	for round := range 20 {
		wantRun(t, w, main, nil, 99, api.Done, 0, 12)
		things = append(things, thing(0, of(0), none()), thing(1, of(0), none(), none()),
			thing(2, of(0), none(), none(), of(0)), thing(3), thing(-1, of(0), of(0)))
		wantKept(t, w, values(arr(5*round+5)), things...)
	}
}

// P18.1: OpCast: the same value, of null, and of an object of it or below it;
// else TrapCast.
func TestCast(t *testing.T) {
	// Which classes are Below which.
	below := [][]bool{{true, false, false, false}, {true, true, false, false}, {true, true, true, false}, {false, false, false, true}}
	for c := range 4 {
		for a := range 4 {
			list := code(op(api.OpNew, c), op(api.OpCast, a))
			if below[c][a] {
				wantDone(t, 0, slices.Concat(list, code(isNull))...)
				w := free.New(taken(t, tree(nothing, slices.Concat(list, code(pop, ret))...)))
				wantBegun(t, w, main)
				wantStep(t, w, api.Going, api.Going)
				wantTop(t, w, main, 2, values(of(0), none(), none(), none(), none(), none()), values(obj(c, 1)))
			} else {
				wantTrap(t, api.TrapCast, list...)
			}
			wantDone(t, 1, op(api.OpGet, 2+c), op(api.OpCast, a), isNull)
		}
		wantDone(t, 1, null, op(api.OpCast, c), isNull)
	}
}

// P18.1: OpVirt: TrapNull; else the slot of the object's own class, with the
// arguments in their order.
func TestVirt(t *testing.T) {
	for c := range 3 {
		wantTrap(t, api.TrapNull, op(api.OpGet, 2+c), push(seven), op(api.OpVirt, c, 0))
		wantTrap(t, api.TrapNull, null, push(zero), op(api.OpVirt, c, 0))
		for a := range c + 1 {
			// Slot 0 adds 1 of class 0, 2 of those below it.
			wantEnd(t, api.Done, 7+int32(min(c, 1)+1), 8, op(api.OpNew, c), push(seven), op(api.OpVirt, a, 0), ret)
		}
	}
	wantEnd(t, api.Done, 8, 8, op(api.OpNew, 1), push(seven), op(api.OpVirt, 1, 1), ret)
	wantEnd(t, api.Done, 10, 8, op(api.OpNew, 2), push(seven), op(api.OpVirt, 1, 1), ret)
	wantEnd(t, api.Done, 10, 8, op(api.OpNew, 2), push(seven), op(api.OpVirt, 2, 1), ret)
	w := free.New(taken(t, tree(number, op(api.OpNew, 2), push(seven), op(api.OpVirt, 1, 1), ret)))
	wantBegun(t, w, main)
	wantStep(t, w, api.Going, api.Going, api.Going)
	wantLive(t, w, main, low)
	wantTop(t, w, low, 0, values(obj(2, 1), of(7)), nil)
}

// P18.1: OpStatic, OpSetStatic; statics are kept from run to run.
func TestStatics(t *testing.T) {
	m := tree(number, op(api.OpStatic, 1), ret)
	m.Statics = types(numbers, number, ref(0), number)
	keep := method(nothing, types(number, number), nil, first, op(api.OpSetStatic, 1), second, op(api.OpSetStatic, 3), ret)
	object := method(nothing, nil, nil, op(api.OpNew, 1), op(api.OpSetStatic, 2), ret)
	m.Methods = append(m.Methods, keep, object)
	w := free.New(taken(t, m))
	wantRun(t, w, main, nil, 9, api.Done, 0, 2)
	wantRun(t, w, 4, []int32{least, most}, 9, api.Done, 0, 5)
	wantKept(t, w, values(none(), of(least), none(), of(most)))
	wantRun(t, w, main, nil, 9, api.Done, least, 2)
	wantRun(t, w, 5, nil, 9, api.Done, 0, 3)
	wantRun(t, w, 4, []int32{5, -5}, 3, api.Spent, 0, 3)
	wantKept(t, w, values(none(), of(5), obj(1, 1), of(most)), thing(1, of(0), none(), none()))
	wantRun(t, w, 5, nil, 9, api.Done, 0, 3)
	wantKept(t, w, values(none(), of(5), obj(1, 2), of(most)), thing(1, of(0), none(), none()), thing(1, of(0), none(), none()))
}

// P18.1: OpCall: the arguments in their order, locals with first values each
// time; OpRet: the result is the caller's last operand, none of Void.
func TestCalls(t *testing.T) {
	less := method(number, types(number, number), nil, first, second, op(api.OpSub), ret)
	void := method(nothing, types(number), types(number), first, second, first, op(api.OpPut, 1), ret)
	count := method(number, nil, types(number), first, push(one), op(api.OpAdd), dup, op(api.OpPut), ret)
	both := method(numbers, types(numbers, ref(0)), nil, second, first, ret)
	m := tree(number, push(seven), push(two), op(api.OpCall, 4), push(three), op(api.OpCall, 5),
		op(api.OpCall, 6), op(api.OpCall, 6), op(api.OpAdd), op(api.OpAdd), ret)
	m.Methods = append(m.Methods, less, void, count, both)
	w := free.New(taken(t, m))
	wantRun(t, w, main, nil, 99, api.Done, 7, 10+4+5+6+6)
	wantBegun(t, w, main)
	wantStep(t, w, many(3, api.Going)...)
	wantLive(t, w, main, 4)
	wantTop(t, w, 4, 0, values(of(7), of(2)), nil)
	wantStep(t, w, many(4, api.Going)...)
	wantLive(t, w, main)
	locals := values(of(0), none(), none(), none(), none(), none())
	wantTop(t, w, main, 3, locals, values(of(5)))
	wantStep(t, w, many(2, api.Going)...)
	wantTop(t, w, 5, 0, values(of(3), of(0)), nil)
	wantStep(t, w, many(5, api.Going)...) // two operands are left behind
	wantTop(t, w, main, 5, locals, values(of(5)))
	wantStep(t, w, many(14, api.Going)...)
	wantTop(t, w, main, 7, locals, values(of(5), of(1), of(1)))
	// References go and come as they are.
	m = tree(number, push(three), op(api.OpArr, 3), op(api.OpNew, 2), op(api.OpCall, 4), length, ret)
	m.Methods = append(m.Methods, both)
	w = free.New(taken(t, m))
	wantBegun(t, w, main)
	wantStep(t, w, many(4, api.Going)...)
	wantTop(t, w, 4, 0, values(arr(1), obj(2, 2)), nil)
	wantStep(t, w, many(3, api.Going)...)
	wantTop(t, w, main, 4, locals, values(arr(1)))
	wantStep(t, w, api.Going, api.Done)
	if w.Value() != 3 {
		t.Errorf("Value() = %d, want 3", w.Value())
	}
}

// P18.1: the run's Value is the first method's result alone; 0 of Void, also
// where there are numbers.
func TestValue(t *testing.T) {
	void := method(nothing, nil, nil, push(seven), ret)
	m := tree(nothing, op(api.OpCall, 4), push(two), ret)
	m.Methods = append(m.Methods, method(number, nil, nil, push(seven), ret), void,
		method(numbers, nil, nil, push(seven), op(api.OpArr, 7), ret))
	w := free.New(taken(t, m))
	wantRun(t, w, 4, nil, 9, api.Done, 7, 2)
	wantRun(t, w, main, nil, 9, api.Done, 0, 5) // what it calls has a result
	wantRun(t, w, 4, nil, 9, api.Done, 7, 2)
	wantRun(t, w, 5, nil, 9, api.Done, 0, 2)
	wantRun(t, w, 4, nil, 9, api.Done, 7, 2)
	wantRun(t, w, 4, nil, 1, api.Spent, 0, 1) // not at its end
	wantStep(t, w, api.Done)
	if w.Value() != 7 {
		t.Errorf("Value() = %d at its end, want 7", w.Value())
	}
	wantBegun(t, w, 4)
	if w.Value() != 0 {
		t.Errorf("Value() = %d ahead of its end, want 0", w.Value())
	}
	wantStep(t, w, api.Going, api.Done, api.Done)
	if w.Value() != 7 {
		t.Errorf("Value() = %d at its end, want 7", w.Value())
	}
	wantRun(t, w, 6, nil, 9, api.Done, 0, 3) // no number
	wantKept(t, w, nil, thing(-1, many(7, of(0))...))
}

// deep calls itself so often as its argument says, and answers that: 9 steps a
// call, of which 6 are ahead of the next one, and 4 for the last one.
func deep(depth int) api.Image {
	down := method(number, types(number), nil, first, op(api.OpZero, 9), first, push(one), op(api.OpSub), op(api.OpCall, 0),
		push(one), op(api.OpAdd), ret, push(zero), ret)
	down.Depth = depth
	return api.Image{Ints: ints(), Methods: []api.Method{down}, Entries: []int{0}}
}

// P18.1: TrapDepth, where a method is under way as often as Depth says already.
func TestDepth(t *testing.T) {
	for depth := 1; depth <= api.MaxDepth; depth++ {
		w := free.New(taken(t, deep(depth)))
		for n := range 12 {
			if n < depth { // n calls, which come back
				wantRun(t, w, 0, []int32{int32(n)}, 999, api.Done, int32(n), 9*n+4)
				wantIdle(t, w)
				continue
			}
			wantRun(t, w, 0, []int32{int32(n)}, 999, api.TrapDepth, 0, 6*depth)
			wantLive(t, w, make([]int, depth)...)
			wantStep(t, w, api.TrapDepth, api.TrapDepth)
			wantLive(t, w, make([]int, depth)...)
		}
	}
}

// P18.1: each method of a ring by its own Depth.
func TestDepthOfRings(t *testing.T) {
	ring := func(f int) api.Method {
		return method(nothing, types(number), nil, first, op(api.OpZero, 6), first, push(one), op(api.OpSub), op(api.OpCall, 1-f), ret)
	}
	for a := 1; a <= api.MaxDepth; a++ {
		for b := 1; b <= api.MaxDepth; b++ {
			m := api.Image{Ints: ints(), Methods: []api.Method{ring(0), ring(1)}, Entries: []int{0, 1}}
			m.Methods[0].Depth, m.Methods[1].Depth = a, b
			w := free.New(taken(t, m))
			calls := min(2*a, 2*b+1) // how many are under way, the first one being 0
			live := slices.Repeat([]int{0, 1}, 9)[:calls]
			wantRun(t, w, 0, []int32{99}, 999, api.TrapDepth, 0, 6*calls)
			wantLive(t, w, live...)
			wantRun(t, w, 0, []int32{int32(calls - 1)}, 999, api.Done, 0, 7*(calls-1)+3)
			wantRun(t, w, 0, []int32{int32(calls)}, 999, api.TrapDepth, 0, 6*calls)
		}
	}
}

// P18.1: Depth is of what is under way: calls that have come back do not count,
// nor do other methods; 0 is no bound. It is so of OpVirt, too.
func TestDepthOfOthers(t *testing.T) {
	for depth := range 3 {
		for _, call := range [][]api.Instr{
			{push(two), op(api.OpArr, 2), length, pop, op(api.OpNew, 0), push(one), op(api.OpCall, plain), pop},
			{push(two), op(api.OpArr, 2), length, pop, op(api.OpNew, 0), push(one), op(api.OpVirt, 0, 0), pop},
		} {
			m := tree(nothing, slices.Concat(call, call, call, call, code(ret))...)
			for f := range m.Methods {
				m.Methods[f].Depth = depth
			}
			w := free.New(taken(t, m))
			wantRun(t, w, main, nil, 999, api.Done, 0, 4*12+1)
		}
	}
	// The slot of class 0 calls itself by the slot; that of class 1 comes back.
	m := tree(number, op(api.OpNew, 0), push(three), op(api.OpVirt, 0, 0), ret)
	m.Methods[plain] = method(number, types(ref(0), number), nil, second, op(api.OpZero, 10), first, second, push(one), op(api.OpSub),
		op(api.OpVirt, 0, 0), push(one), op(api.OpAdd), ret, second, ret)
	for depth := 1; depth < 6; depth++ {
		m.Methods[plain].Depth = depth
		w := free.New(taken(t, m))
		if depth >= 4 { // 3, 2, 1 and 0
			wantRun(t, w, main, nil, 999, api.Done, 3, 3+3*10+4+1)
			continue
		}
		wantRun(t, w, main, nil, 999, api.TrapDepth, 0, 3+7*depth)
		wantLive(t, w, append([]int{main}, many(depth, plain)...)...)
	}
	// Null comes ahead of the depth.
	m.Methods[plain].Code[2] = null
	m.Methods[plain].Depth = 1
	w := free.New(taken(t, m))
	wantRun(t, w, main, nil, 999, api.TrapNull, 0, 10)
}

// P18.1: Run: up to its end, or fuel Steps; what is spent goes on by Step.
func TestFuel(t *testing.T) {
	w := free.New(taken(t, deep(8)))
	need := 9*3 + 4
	for fuel := -2; fuel < need+9; fuel++ {
		args := []int32{3}
		if fuel >= need {
			wantRun(t, w, 0, args, fuel, api.Done, 3, need)
			wantIdle(t, w)
			continue
		}
		wantRun(t, w, 0, args, fuel, api.Spent, 0, max(fuel, 0))
		for k := max(fuel, 0); k < need-1; k++ {
			wantStep(t, w, api.Going)
		}
		wantStep(t, w, api.Done, api.Done)
		if w.Value() != 3 {
			t.Errorf("Value() = %d behind %d and more steps, want 3", w.Value(), fuel)
		}
	}
	wantRun(t, w, 0, []int32{3}, math.MinInt, api.Spent, 0, 0)
	wantLive(t, w, 0)
	wantTop(t, w, 0, 0, values(of(3)), nil)
	wantRun(t, w, 0, []int32{3}, math.MaxInt, api.Done, 3, need)
	// A trap that is the last of its fuel is a trap.
	for fuel := range 60 {
		if fuel < 48 {
			wantRun(t, w, 0, []int32{8}, fuel, api.Spent, 0, fuel)
		} else {
			wantRun(t, w, 0, []int32{8}, fuel, api.TrapDepth, 0, 48)
		}
	}
	ring := free.New(taken(t, api.Image{Methods: []api.Method{method(nothing, nil, nil, op(api.OpJump))}}))
	wantRun(t, ring, 0, nil, api.MaxFuel, api.Spent, 0, api.MaxFuel)
	wantLive(t, ring, 0)
}

// P18.1, P18.2: a trap changes nothing but operands: what was kept, what is under
// way, and its locals, are as they were.
func TestTraps(t *testing.T) {
	bad := map[int][]api.Instr{
		api.TrapNull:  {second, push(one), push(two), store, push(one), ret},
		api.TrapIndex: {op(api.OpStatic), push(highest), push(two), store, push(one), ret},
		api.TrapDiv:   {push(one), push(zero), op(api.OpRem), ret},
		api.TrapSize:  {push(above), op(api.OpArr, 255), op(api.OpSetStatic), push(one), ret},
		api.TrapCast:  {op(api.OpStatic, 2), op(api.OpCast, 3), pop, push(one), ret},
		api.TrapDepth: {first, op(api.OpCall, 4), ret},
	}
	for end, list := range bad {
		m := tree(number, push(two), op(api.OpArr, 2), op(api.OpSetStatic), push(seven), op(api.OpSetStatic, 1),
			op(api.OpNew, 1), op(api.OpSetStatic, 2), push(three), op(api.OpPut), op(api.OpNew, 3), op(api.OpPut, 5),
			push(seven), op(api.OpCall, 4), ret)
		m.Statics = types(numbers, number, ref(0))
		trap := method(number, types(number), types(numbers, ref(2)), list...)
		trap.Depth = 1
		m.Methods = append(m.Methods, trap)
		w := free.New(taken(t, m))
		at := slices.IndexFunc(list, func(i api.Instr) bool {
			return slices.Contains([]int{api.OpStore, api.OpRem, api.OpArr, api.OpCast, api.OpCall}, i.Op)
		})
		wantRun(t, w, main, nil, 99, end, 0, 13+at+1)
		for range 3 {
			wantKept(t, w, values(arr(1), of(7), obj(1, 2)), thing(-1, of(0), of(0)), thing(1, of(0), none(), none()), thing(3))
			wantLive(t, w, main, 4)
			f, _, locals, _, ok := w.Top()
			if f != 4 || !slices.Equal(locals, values(of(7), none(), none())) || !ok {
				t.Errorf("Top() = %d %v %v behind trap %d", f, locals, ok, end)
			}
			wantStep(t, w, end)
			if w.Value() != 0 {
				t.Errorf("Value() = %d behind trap %d", w.Value(), end)
			}
		}
		// Another run has nothing of it.
		wantBegun(t, w, main)
		wantLive(t, w, main)
		wantTop(t, w, main, 0, values(of(0), none(), none(), none(), none(), none()), nil)
		wantStep(t, w, api.Going)
	}
}

// P18.2: Live and Top, step by step, of methods that call one another.
func TestTop(t *testing.T) {
	m := api.Image{
		Classes: []api.Class{{Super: -1, Slots: []int{2}}},
		Ints:    ints(),
		Methods: []api.Method{
			method(number, types(number), types(ref(0)), op(api.OpNew), dup, op(api.OpPut, 1), first, op(api.OpVirt), op(api.OpCall, 1), ret),
			method(number, types(number), nil, first, op(api.OpZero, 4), push(two), ret, push(three), ret),
			method(number, types(ref(0), number), types(numbers), second, op(api.OpCall, 1), ret),
		},
	}
	w := free.New(taken(t, m))
	wantBegun(t, w, 0, 5)
	o := obj(0, 1)
	was, is, slot := values(of(5), none()), values(of(5), o), values(o, of(5), none())
	for _, c := range []struct {
		live             []int
		pc               int
		locals, operands []free.Value
	}{
		{[]int{0}, 0, was, nil},
		{[]int{0}, 1, was, values(o)},
		{[]int{0}, 2, was, values(o, o)},
		{[]int{0}, 3, is, values(o)},
		{[]int{0}, 4, is, values(o, of(5))},
		{[]int{0, 2}, 0, slot, nil},
		{[]int{0, 2}, 1, slot, values(of(5))},
		{[]int{0, 2, 1}, 0, values(of(5)), nil},
		{[]int{0, 2, 1}, 1, values(of(5)), values(of(5))},
		{[]int{0, 2, 1}, 2, values(of(5)), nil},
		{[]int{0, 2, 1}, 3, values(of(5)), values(of(2))},
		{[]int{0, 2}, 2, slot, values(of(2))},
		{[]int{0}, 5, is, values(of(2))},
		{[]int{0, 1}, 0, values(of(2)), nil},
		{[]int{0, 1}, 1, values(of(2)), values(of(2))},
		{[]int{0, 1}, 2, values(of(2)), nil},
		{[]int{0, 1}, 3, values(of(2)), values(of(2))},
		{[]int{0}, 6, is, values(of(2))},
	} {
		wantLive(t, w, c.live...)
		wantTop(t, w, c.live[len(c.live)-1], c.pc, c.locals, c.operands)
		if end := w.Step(); end != api.Going && (end != api.Done || c.pc != 6) {
			t.Errorf("Step() = %d at %d of %v", end, c.pc, c.live)
		}
	}
	wantIdle(t, w)
	if w.Value() != 2 {
		t.Errorf("Value() = %d, want 2", w.Value())
	}
}

// All calls of a nil *World, and of one that nobody made by New: there is
// nothing.
func TestNil(t *testing.T) {
	for _, w := range []*free.World{nil, {}} {
		for range 3 {
			for _, f := range []int{math.MinInt, -1, 0, 1, math.MaxInt} {
				for _, args := range [][]int32{nil, {}, {1}, {1, 2}} {
					if e := w.Begin(f, args); e != api.ErrArg {
						t.Errorf("Begin(%d, %v) = %d, want ErrArg", f, args, e)
					}
					for _, fuel := range []int{math.MinInt, -1, 0, 1, math.MaxInt} {
						wantRun(t, w, f, args, fuel, api.Spent, 0, 0)
					}
				}
			}
			wantIdle(t, w)
			wantKept(t, w, nil)
		}
	}
}

// roomy is a list with spare room, in which there is something.
func roomy[T any](list []T, spare T) []T {
	return append(slices.Clone(list), spare, spare, spare)[:len(list)]
}

// full is a list with its spare room.
func full[T any](list []T) []T { return list[:cap(list)] }

// fillUp writes over a list, spare room included.
func fillUp[T any](list []T, with T) {
	for k := range full(list) {
		full(list)[k] = with
	}
}

// busy keeps an object, and an array in it, and then calls a slot.
func busy(t *testing.T) api.Image {
	t.Helper()
	m := tree(number, op(api.OpNew, 1), dup, op(api.OpSetStatic), push(three), op(api.OpArr, 3), op(api.OpSetStatic, 1),
		op(api.OpStatic), op(api.OpStatic, 1), op(api.OpSetField, 0, 1), push(seven), op(api.OpVirt, 0, 0), ret)
	m.Statics = types(ref(1), numbers, number)
	m.Methods[plain].Locals, m.Methods[other].Locals = types(numbers), types(number)
	return taken(t, m)
}

// busyOne is a world of it, ahead of the call's OpAdd.
func busyOne(t *testing.T, m api.Image) *free.World {
	t.Helper()
	w := free.New(m)
	wantBegun(t, w, main)
	wantStep(t, w, many(13, api.Going)...)
	wantBusy(t, w)
	return w
}

// wantBusy holds that it is as it was.
func wantBusy(t *testing.T, w *free.World) {
	t.Helper()
	wantLive(t, w, main, other)
	wantTop(t, w, other, 2, values(obj(1, 1), of(7), of(0)), values(of(2), of(7)))
	wantKept(t, w, values(obj(1, 1), arr(2), of(0)), thing(1, of(0), arr(2), none()), thing(-1, of(0), of(0), of(0)))
}

// wantOut holds that it comes to its end.
func wantOut(t *testing.T, w *free.World) {
	t.Helper()
	wantStep(t, w, api.Going, api.Going, api.Done, api.Done)
	if w.Value() != 9 {
		t.Errorf("Value() = %d, want 9", w.Value())
	}
}

// R4: what is answered is new memory: to write to it, spare room included,
// changes nothing of what is under way, or of another answer.
func TestAnswersApart(t *testing.T) {
	w := busyOne(t, busy(t))
	bad := obj(77, 77)
	statics, things, live := w.Statics(), w.Things(), w.Live()
	_, _, locals, operands, _ := w.Top()
	fillUp(w.Statics(), bad)
	fillUp(w.Live(), 77)
	_, _, l, o, _ := w.Top()
	fillUp(l, bad)
	wantBusy(t, w)
	if !slices.Equal(o, values(of(2), of(7))) {
		t.Errorf("locals and operands share memory: %v", o)
	}
	fillUp(o, bad)
	for _, x := range w.Things() {
		fillUp(x.Cells, bad)
	}
	fillUp(w.Things(), thing(77, bad))
	wantBusy(t, w)
	// Each thing's cells apart.
	list := w.Things()
	fillUp(list[0].Cells, bad)
	if !slices.Equal(list[1].Cells, values(of(0), of(0), of(0))) {
		t.Errorf("two things share cells: %v", list)
	}
	list = w.Things()
	fillUp(list[1].Cells, bad)
	if !slices.Equal(list[0].Cells, values(of(0), arr(2), none())) {
		t.Errorf("two things share cells: %v", list)
	}
	// What was answered ahead stays, also behind more steps, that write there.
	wantOut(t, w)
	wantRun(t, w, main, nil, 99, api.Done, 9, 16)
	if !slices.Equal(live, []int{main, other}) || !slices.Equal(locals, values(obj(1, 1), of(7), of(0))) ||
		!slices.Equal(operands, values(of(2), of(7))) || !slices.Equal(statics, values(obj(1, 1), arr(2), of(0))) ||
		len(things) != 2 || !sameThing(things[0], thing(1, of(0), arr(2), none())) || !sameThing(things[1], thing(-1, of(0), of(0), of(0))) {
		t.Errorf("an answer changed: %v %v %v %v %v", live, locals, operands, statics, things)
	}
}

// whole is an image with the spare room of its lists.
func whole(m api.Image) string {
	list := []any{full(m.Ints), full(m.Statics), full(m.Entries), m.Stack, m.Heap}
	for _, c := range full(m.Classes) {
		list = append(list, c, full(c.Fields), full(c.Slots))
	}
	for _, x := range full(m.Methods) {
		list = append(list, x, full(x.Args), full(x.Locals), full(x.Code), full(x.Phi))
	}
	return fmt.Sprint(list)
}

// handed is an image with spare room, in which there is something that would
// count, if it were there.
func handed(t *testing.T) api.Image {
	t.Helper()
	m := busy(t)
	for f := range m.Methods {
		x := &m.Methods[f]
		x.Args, x.Locals = roomy(x.Args, number), roomy(x.Locals, number)
		x.Code, x.Phi = roomy(x.Code, op(api.OpAdd)), roomy(x.Phi, 9)
	}
	for c := range m.Classes {
		x := &m.Classes[c]
		x.Fields, x.Slots = roomy(x.Fields, number), roomy(x.Slots, low)
	}
	m.Classes = roomy(m.Classes, api.Class{Super: 0, Slots: []int{low}})
	m.Methods = roomy(m.Methods, method(number, nil, nil, push(one), ret))
	m.Ints, m.Statics, m.Entries = roomy(m.Ints, 7), roomy(m.Statics, number), roomy(m.Entries, main)
	return m
}

// spoilAll writes over all of an image, spare room included.
func spoilAll(m api.Image) {
	for _, x := range m.Methods {
		fillUp(x.Args, ref(77))
		fillUp(x.Locals, ref(77))
		fillUp(x.Code, op(77, 77, 77))
		fillUp(x.Phi, 77)
	}
	for _, c := range m.Classes {
		fillUp(c.Fields, ref(77))
		fillUp(c.Slots, 77)
	}
	fillUp(m.Methods, api.Method{Depth: 1})
	fillUp(m.Classes, api.Class{Super: 77})
	fillUp(m.Ints, 77)
	fillUp(m.Statics, ref(77))
	fillUp(m.Entries, 77)
}

// R4: what is handed in is not changed, and not kept, spare room included; what
// lies in spare room does not count.
func TestKeepsArguments(t *testing.T) {
	m := handed(t)
	before := whole(m)
	w := busyOne(t, m)
	wantOut(t, w)
	wantBegun(t, w, main)
	if e := w.Begin(len(m.Methods), nil); e != api.ErrArg {
		t.Errorf("Begin of a method in spare room = %d", e)
	}
	wantRun(t, w, main, nil, 99, api.Done, 9, 16)
	if whole(m) != before {
		t.Errorf("it is changed: %s", told(m))
	}
	fresh, early := free.New(m), busyOne(t, m)
	spoilAll(m)
	wantRun(t, fresh, main, nil, 99, api.Done, 9, 16)
	wantBusy(t, early)
	wantOut(t, early)
	wantRun(t, w, main, nil, 99, api.Done, 9, 16)

	w = free.New(taken(t, deep(8)))
	args := roomy([]int32{5}, 9)
	wantRun(t, w, 0, args, 99, api.Done, 5, 49)
	wantBegun(t, w, 0, args...)
	if e := w.Begin(0, args); e != api.OK || !slices.Equal(full(args), full(roomy([]int32{5}, 9))) {
		t.Errorf("Begin = %d, and the arguments are %v", e, full(args))
	}
	fillUp(args, 1)
	wantTop(t, w, 0, 0, values(of(5)), nil)
}

// R5: worlds know nothing of each other, and the same calls answer the same.
func TestAgain(t *testing.T) {
	m := busy(t)
	quiet := free.New(m)
	for range 50 {
		w := busyOne(t, m)
		x := free.New(taken(t, deep(3)))
		wantRun(t, x, 0, []int32{9}, 99, api.TrapDepth, 0, 18)
		wantBusy(t, w)
		wantOut(t, w)
		wantRun(t, w, main, nil, 5, api.Spent, 0, 5)
		wantKept(t, quiet, values(none(), none(), of(0)))
		wantIdle(t, quiet)
	}
}

// dice throws numbers below a limit, each made of the one ahead of it.
func dice(seed uint64) func(int) int {
	return func(limit int) int {
		seed = seed*6364136223846793005 + 1442695040888963407
		return int(seed >> 33 % uint64(limit))
	}
}

// R1: of images that chapter 16 does not take in nothing is promised, but that
// calls are answered, and end.
func TestNotTakenIn(t *testing.T) {
	throw := dice(18)
	numbers := func() int {
		return []int{math.MinInt, -1 << 32, -9, -2, -1, 0, 0, 1, 1, 2, 2, 3, 4, 5, 9, 64, 255}[throw(17)]
	}
	var met [api.Spent + 1]int
	for range 20000 {
		m := tree(number, push(seven), ret)
		m.Statics = types(number, ref(0))
		for range 1 + throw(20) {
			x := &m.Methods[throw(len(m.Methods))]
			i := op(throw(api.OpCast+2), numbers(), numbers())
			if throw(50) == 0 {
				i.Op = []int{math.MinInt, -1, 0, 35, math.MaxInt}[throw(5)]
			}
			x.Code = slices.Insert(x.Code, throw(len(x.Code)+1), i)
		}
		switch x := &m.Methods[throw(4)]; throw(9) {
		case 0:
			x.Depth = numbers()
		case 1:
			m.Classes[throw(4)].Super = numbers()
		case 2:
			m.Classes[0].Slots[0] = numbers()
		case 3:
			x.Code = nil
		case 4:
			x.Ret = api.Type{Kind: throw(7), N: numbers()}
		case 5:
			x.Args = append(slices.Clone(x.Args), many(throw(9), ref(numbers()))...)
		case 6:
			x.Locals = append(slices.Clone(x.Locals), api.Type{Kind: numbers(), N: numbers()})
		}
		w := free.New(m)
		for f := -1; f < 6; f++ {
			args := []int32{1, 2}
			if f >= 0 && f < 4 {
				args = make([]int32, len(m.Methods[f].Args))
			}
			end, _, _ := w.Run(f, args, 60)
			met[end]++
			w.Top()
			w.Live()
			if again := w.Step(); end != api.Spent && again != end {
				t.Fatalf("Step() = %d behind %d of %s", again, end, told(m))
			}
			w.Things()
			w.Statics()
		}
	}
	for end, n := range met {
		if n < 10 && end != api.Going {
			t.Errorf("%d was met %d times", end, n)
		}
	}
}
