package flow_test

import (
	"fmt"
	"math"
	"slices"
	"strings"
	"testing"

	"plimsoll/api"
	"plimsoll/flow"
	"plimsoll/image"
	"plimsoll/sane"
)

var (
	number  = api.Type{Kind: api.Int}
	numbers = api.Type{Kind: api.Arr}
	null    = api.Type{Kind: api.Null}
	nothing = api.Type{Kind: api.Void}
)

func ref(n int) api.Type { return api.Type{Kind: api.Ref, N: n} }

// types is a list of them.
func types(list ...api.Type) []api.Type { return list }

// many is a list of so many like one.
func many[T any](n int, x T) []T { return slices.Repeat([]T{x}, n) }

// op is an instruction by its numbers, of which the last ones may lack.
func op(list ...int) api.Instr {
	list = append(list, 0, 0)
	return api.Instr{Op: list[0], A: list[1], B: list[2]}
}

// method is one of some code, with as many Phi.
func method(ret api.Type, args, locals []api.Type, code ...api.Instr) api.Method {
	return api.Method{Args: args, Locals: locals, Ret: ret, Code: code, Phi: make([]int, len(code))}
}

// sample is sane. Class 3 is below 1, that is below 0; 2 is alone. Its methods
// answer one of each that there is.
func sample() api.Image {
	ret := op(api.OpRet)
	return api.Image{
		Classes: []api.Class{
			{Super: -1, Fields: types(number, ref(2)), Slots: []int{2}},
			{Super: 0, Fields: types(numbers, ref(1)), Slots: []int{3, 4}},
			{Super: -1, Slots: []int{6}},
			{Super: 1, Fields: types(number), Slots: []int{2, 4, 5}},
		},
		Statics: types(numbers, ref(1), number),
		Ints:    []int32{7, -7, 0},
		Methods: []api.Method{
			method(number, types(number), types(ref(1), numbers), ret, ret),
			method(nothing, nil, nil, ret, ret),
			method(number, types(ref(0), number, numbers), types(number), ret, ret),
			method(number, types(ref(1), number, numbers), nil, ret, ret),
			method(nothing, types(ref(1)), types(ref(2)), ret, ret),
			method(ref(2), types(ref(3), ref(0)), nil, ret, ret),
			method(numbers, types(ref(2), ref(1), number, ref(3)), nil, ret, ret),
		},
		Stack: 40,
		Heap:  300,
	}
}

// with is the sample, with one instruction ahead of the other ones of a method.
func with(f int, i api.Instr) api.Image {
	m := sample()
	m.Methods[f].Code[0] = i
	return m
}

// table is what an instruction takes and gives, by the words of the chapter.
func table() map[int]string {
	all := map[int]string{
		api.OpPush:      ": Int",
		api.OpNull:      ": Null",
		api.OpGet:       ": local",
		api.OpPut:       "local :",
		api.OpPop:       "any :",
		api.OpDup:       "any : first first",
		api.OpJump:      ":",
		api.OpZero:      "Int :",
		api.OpIsNull:    "IsRef : Int",
		api.OpSame:      "IsRef IsRef : Int",
		api.OpNew:       ": RefA",
		api.OpArr:       "Int : Arr",
		api.OpLoad:      "Arr Int : Int",
		api.OpStore:     "Arr Int Int :",
		api.OpLen:       "Arr : Int",
		api.OpField:     "RefA : field",
		api.OpSetField:  "RefA field :",
		api.OpStatic:    ": static",
		api.OpSetStatic: "static :",
		api.OpCall:      "args : result",
		api.OpVirt:      "RefA others : result",
		api.OpRet:       "own :",
		api.OpCast:      "IsRefButArr : RefA",
	}
	for k := api.OpAdd; k <= api.OpEqual; k++ {
		all[k] = "Int Int : Int"
	}
	return all
}

// upward is a class, what stands above it, and so on.
func upward(m api.Image, c int) []int {
	if c < 0 || c >= len(m.Classes) {
		return nil
	}
	return append([]int{c}, upward(m, m.Classes[c].Super)...)
}

// spelt is a word's types, of an instruction of a method of a sane image, or
// the word itself, for those that are no types.
func spelt(m api.Image, f int, i api.Instr, word string, taken []api.Type) []any {
	var list []api.Type
	called := i.A
	if i.Op == api.OpVirt {
		called = m.Classes[i.A].Slots[i.B]
	}
	switch word {
	case "Int":
		list = types(number)
	case "Arr":
		list = types(numbers)
	case "Null":
		list = types(null)
	case "RefA":
		list = types(ref(i.A))
	case "first":
		list = taken[:1]
	case "local":
		list = slices.Concat(m.Methods[f].Args, m.Methods[f].Locals)[i.A:][:1]
	case "static":
		list = m.Statics[i.A:][:1]
	case "field":
		for _, c := range upward(m, i.A) {
			list = slices.Concat(m.Classes[c].Fields, list)
		}
		list = list[i.B:][:1]
	case "args":
		list = m.Methods[called].Args
	case "others":
		list = m.Methods[called].Args[1:]
	case "result":
		list = unlessVoid(m.Methods[called].Ret)
	case "own":
		list = unlessVoid(m.Methods[f].Ret)
	default:
		return []any{word}
	}
	var all []any
	for _, t := range list {
		all = append(all, t)
	}
	return all
}

// unlessVoid is a result, if it is not that.
func unlessVoid(t api.Type) []api.Type {
	if t == nothing {
		return nil
	}
	return types(t)
}

// spellAll is what some words are.
func spellAll(m api.Image, f int, i api.Instr, words string, taken []api.Type) []any {
	var all []any
	for _, word := range strings.Fields(words) {
		all = append(all, spelt(m, f, i, word, taken)...)
	}
	return all
}

// fit: does an operand fit where that is wanted?
func fit(m api.Image, t api.Type, want any) bool {
	isRef := t.Kind == 2 || t.Kind == 3 || t.Kind == 4
	switch want {
	case "any":
		return true
	case "IsRef":
		return isRef
	case "IsRefButArr":
		return t.Kind == 3 || t.Kind == 4
	case number:
		return t == number
	case numbers:
		return t == numbers || t.Kind == 4
	}
	c := want.(api.Type)
	return t.Kind == 4 || t.Kind == 3 && slices.Contains(upward(m, t.N), c.N)
}

// wanted is what Step has to answer of a sane image, by the words.
func wanted(m api.Image, f, pc int, stack []api.Type) (after []api.Type, next []int, e api.Errno) {
	if f < 0 || f >= len(m.Methods) || pc < 0 || pc >= len(m.Methods[f].Code) {
		return nil, nil, api.ErrArg
	}
	i := m.Methods[f].Code[pc]
	switch i.Op {
	case api.OpJump:
		next = []int{i.A}
	case api.OpZero:
		next = []int{pc + 1, i.A}
	case api.OpRet:
	default:
		next = []int{pc + 1}
	}
	if slices.Contains(next, len(m.Methods[f].Code)) {
		return nil, nil, api.ErrType
	}
	takes, gives, _ := strings.Cut(table()[i.Op], ":")
	wants := spellAll(m, f, i, takes, nil)
	if len(stack) < len(wants) {
		return nil, nil, api.ErrType
	}
	n := len(stack) - len(wants)
	for k, want := range wants {
		if !fit(m, stack[n+k], want) {
			return nil, nil, api.ErrType
		}
	}
	after = slices.Clone(stack[:n])
	for _, t := range spellAll(m, f, i, gives, stack[n:]) {
		after = append(after, t.(api.Type))
	}
	if len(after) > 8 {
		return nil, nil, api.ErrType
	}
	return after, next, api.OK
}

// wantStep holds Step to an answer.
func wantStep(t *testing.T, m api.Image, f, pc int, stack, after []api.Type, next []int, e api.Errno) {
	t.Helper()
	a, n, got := flow.Step(m, f, pc, stack)
	if got != e || !slices.Equal(a, after) || !slices.Equal(n, next) {
		var i any = "none"
		if f >= 0 && f < len(m.Methods) && pc >= 0 && pc < len(m.Methods[f].Code) {
			i = m.Methods[f].Code[pc]
		}
		t.Errorf("Step(%d, %d: %v, %v) = %v, %v, %d, want %v, %v, %d", f, pc, i, stack, a, n, got, after, next, e)
	}
}

// wantWords holds Step to the words.
func wantWords(t *testing.T, m api.Image, f, pc int, stack []api.Type) {
	t.Helper()
	after, next, e := wanted(m, f, pc, stack)
	wantStep(t, m, f, pc, stack, after, next, e)
}

// sound are all instructions that a method of the sample may have; of OpArr,
// those with a few numbers.
func sound(f int) []api.Instr {
	var all []api.Instr
	for k := api.OpPush; k <= api.OpCast; k++ {
		for _, a := range []int{0, 1, 2, 3, 4, 5, 6, 255} {
			for b := range 5 {
				if i := op(k, a, b); sane.Check(with(f, i)) == api.OK {
					all = append(all, i)
				}
			}
		}
	}
	return all
}

// stacks are all of up to so many operands of some types.
func stacks(n int, of []api.Type) [][]api.Type {
	all, last := [][]api.Type{nil}, [][]api.Type{nil}
	for range n {
		var next [][]api.Type
		for _, s := range last {
			for _, t := range of {
				next = append(next, append(slices.Clone(s), t))
			}
		}
		all, last = append(all, next...), next
	}
	return all
}

// row is what an instruction, the first of method 0, does to a stack.
type row struct {
	i     api.Instr
	stack []api.Type
	after []api.Type
	e     api.Errno
}

// P8.1: the sample is sane, so that all is promised of it; and each instruction
// is met.
func TestSample(t *testing.T) {
	met := map[int]bool{}
	for f := range sample().Methods {
		for _, i := range sound(f) {
			met[i.Op] = true
		}
	}
	if e := sane.Check(sample()); e != api.OK || len(met) != 34 {
		t.Errorf("the sample: %d, of %d instructions", e, len(met))
	}
}

// P8.1: each instruction, worked out by hand: what fits, by just as much as it
// has to, and what does not.
func TestStep(t *testing.T) {
	const bad = api.ErrType
	rows := []row{
		{op(api.OpPush, 2), nil, types(number), 0},
		{op(api.OpPush), types(null), types(null, number), 0},
		{op(api.OpNull), types(number), types(number, null), 0},
		{op(api.OpGet, 0), nil, types(number), 0},
		{op(api.OpGet, 1), types(numbers), types(numbers, ref(1)), 0},
		{op(api.OpGet, 2), nil, types(numbers), 0},
		{op(api.OpPut, 0), types(number, number), types(number), 0},
		{op(api.OpPut, 0), types(null), nil, bad},
		{op(api.OpPut, 1), types(ref(1)), nil, 0},
		{op(api.OpPut, 1), types(ref(3)), nil, 0},
		{op(api.OpPut, 1), types(null), nil, 0},
		{op(api.OpPut, 1), types(ref(0)), nil, bad},
		{op(api.OpPut, 1), types(ref(2)), nil, bad},
		{op(api.OpPut, 1), types(numbers), nil, bad},
		{op(api.OpPut, 2), types(null), nil, 0},
		{op(api.OpPut, 2), types(ref(1)), nil, bad},
		{op(api.OpPut, 2), nil, nil, bad},
		{op(api.OpPop), types(number, ref(3)), types(number), 0},
		{op(api.OpPop), types(null), nil, 0},
		{op(api.OpPop), nil, nil, bad},
		{op(api.OpDup), types(number, ref(3)), types(number, ref(3), ref(3)), 0},
		{op(api.OpDup), types(null), types(null, null), 0},
		{op(api.OpDup), nil, nil, bad},
		{op(api.OpAdd), types(number, number), types(number), 0},
		{op(api.OpSub), types(null, number, number), types(null, number), 0},
		{op(api.OpMul), types(number, null), nil, bad},
		{op(api.OpDiv), types(numbers, number), nil, bad},
		{op(api.OpShr), types(number, numbers), nil, bad},
		{op(api.OpEqual), types(number), nil, bad},
		{op(api.OpEqual), types(number, number), types(number), 0},
		{op(api.OpIsNull), types(numbers), types(number), 0},
		{op(api.OpIsNull), types(null), types(number), 0},
		{op(api.OpIsNull), types(ref(2)), types(number), 0},
		{op(api.OpIsNull), types(number), nil, bad},
		{op(api.OpSame), types(ref(2), ref(0)), types(number), 0},
		{op(api.OpSame), types(null, numbers), types(number), 0},
		{op(api.OpSame), types(numbers, ref(3)), types(number), 0},
		{op(api.OpSame), types(number, number), nil, bad},
		{op(api.OpSame), types(number, null), nil, bad},
		{op(api.OpSame), types(null, number), nil, bad},
		{op(api.OpSame), types(null), nil, bad},
		{op(api.OpNew, 3), types(null), types(null, ref(3)), 0},
		{op(api.OpNew), nil, types(ref(0)), 0},
		{op(api.OpArr, 255), types(number), types(numbers), 0},
		{op(api.OpArr, 9), types(numbers), nil, bad},
		{op(api.OpArr), nil, nil, bad},
		{op(api.OpLoad), types(number, numbers, number), types(number, number), 0},
		{op(api.OpLoad), types(null, number), types(number), 0},
		{op(api.OpLoad), types(number, numbers), nil, bad},
		{op(api.OpLoad), types(ref(0), number), nil, bad},
		{op(api.OpStore), types(number, numbers, number, number), types(number), 0},
		{op(api.OpStore), types(null, number, number), nil, 0},
		{op(api.OpStore), types(numbers, number), nil, bad},
		{op(api.OpStore), types(number, number, number), nil, bad},
		{op(api.OpLen), types(numbers), types(number), 0},
		{op(api.OpLen), types(ref(0)), nil, bad},
	}
	for _, r := range slices.Concat(rows, rowsByName()) {
		next := []int{1}
		if r.e != 0 {
			next = nil
		}
		wantStep(t, with(0, r.i), 0, 0, r.stack, r.after, next, r.e)
	}
}

// rowsByName are those of what names a class, a static or a method.
func rowsByName() []row {
	const bad = api.ErrType
	return []row{
		{op(api.OpField, 0, 1), types(ref(0)), types(ref(2)), 0},
		{op(api.OpField, 0, 0), types(ref(3)), types(number), 0},
		{op(api.OpField, 3, 0), types(ref(3)), types(number), 0},
		{op(api.OpField, 3, 2), types(ref(3)), types(numbers), 0},
		{op(api.OpField, 3, 3), types(null), types(ref(1)), 0},
		{op(api.OpField, 3, 4), types(ref(3)), types(number), 0},
		{op(api.OpField, 3, 4), types(ref(1)), nil, bad},
		{op(api.OpField, 0, 0), types(ref(2)), nil, bad},
		{op(api.OpField, 0, 0), types(numbers), nil, bad},
		{op(api.OpSetField, 1, 3), types(number, ref(3), ref(3)), types(number), 0},
		{op(api.OpSetField, 1, 3), types(ref(1), null), nil, 0},
		{op(api.OpSetField, 1, 3), types(ref(1), ref(0)), nil, bad},
		{op(api.OpSetField, 1, 3), types(ref(0), ref(1)), nil, bad},
		{op(api.OpSetField, 1, 0), types(null, number), nil, 0},
		{op(api.OpSetField, 1, 0), types(number, null), nil, bad},
		{op(api.OpSetField, 1, 0), types(ref(1)), nil, bad},
		{op(api.OpStatic, 1), nil, types(ref(1)), 0},
		{op(api.OpStatic, 2), types(null), types(null, number), 0},
		{op(api.OpSetStatic, 0), types(null), nil, 0},
		{op(api.OpSetStatic, 1), types(ref(3)), nil, 0},
		{op(api.OpSetStatic, 1), types(ref(0)), nil, bad},
		{op(api.OpSetStatic, 2), nil, nil, bad},
		{op(api.OpCall, 0), types(number, number), types(number, number), 0},
		{op(api.OpCall, 1), types(null), types(null), 0},
		{op(api.OpCall, 1), nil, nil, 0},
		{op(api.OpCall, 2), types(ref(1), number, null), types(number), 0},
		{op(api.OpCall, 3), types(ref(0), number, null), nil, bad},
		{op(api.OpCall, 3), types(ref(1), numbers, number), nil, bad},
		{op(api.OpCall, 4), types(null), nil, 0},
		{op(api.OpCall, 5), types(number, ref(3), ref(3)), types(number, ref(2)), 0},
		{op(api.OpCall, 6), types(ref(2), ref(3), number, ref(3)), types(numbers), 0},
		{op(api.OpCall, 6), types(ref(3), number, ref(3)), nil, bad},
		{op(api.OpVirt, 0, 0), types(ref(0), number, numbers), types(number), 0},
		{op(api.OpVirt, 0, 0), types(null, ref(3), number, null), types(null, number), 0},
		{op(api.OpVirt, 3, 0), types(ref(1), number, numbers), nil, bad}, // though its method takes a Ref of 0
		{op(api.OpVirt, 3, 0), types(ref(3), number, numbers), types(number), 0},
		{op(api.OpVirt, 3, 1), types(ref(3)), nil, 0},
		{op(api.OpVirt, 3, 1), types(ref(1)), nil, bad},
		{op(api.OpVirt, 1, 1), types(ref(3)), nil, 0},
		{op(api.OpVirt, 3, 2), types(ref(3), ref(0)), types(ref(2)), 0},
		{op(api.OpVirt, 3, 2), types(ref(3), ref(2)), nil, bad},
		{op(api.OpVirt, 2, 0), types(ref(2), null, number, null), types(numbers), 0},
		{op(api.OpVirt, 2, 0), types(ref(2), null, number), nil, bad},
		{op(api.OpCast, 3), types(ref(0)), types(ref(3)), 0},
		{op(api.OpCast, 0), types(ref(3)), types(ref(0)), 0},
		{op(api.OpCast, 2), types(number, ref(3)), types(number, ref(2)), 0}, // it never can be
		{op(api.OpCast, 1), types(null), types(ref(1)), 0},
		{op(api.OpCast, 1), types(numbers), nil, bad},
		{op(api.OpCast, 1), types(number), nil, bad},
		{op(api.OpCast, 1), nil, nil, bad},
	}
}

// P8.1: OpRet takes the own result of each method; it goes on nowhere, so that
// it may be the last one.
func TestRet(t *testing.T) {
	m := sample()
	for f, x := range m.Methods {
		want := unlessVoid(x.Ret)
		wantStep(t, m, f, 1, want, nil, nil, api.OK)
		wantStep(t, m, f, 1, append(types(null, number), want...), types(null, number), nil, api.OK)
		if len(want) > 0 {
			wantStep(t, m, f, 0, nil, nil, nil, api.ErrType)
		}
	}
	wantStep(t, m, 1, 1, types(numbers), types(numbers), nil, api.OK)
	wantStep(t, m, 0, 1, types(null), nil, nil, api.ErrType)
	wantStep(t, m, 5, 1, types(null), nil, nil, api.OK)
	wantStep(t, m, 5, 1, types(ref(3)), nil, nil, api.ErrType)
}

// oddTypes are some that no applet has, though operands that are handed in may
// have them.
func oddTypes() []api.Type {
	return types(api.Type{}, nothing, ref(-1), ref(4), ref(math.MaxInt), ref(math.MinInt),
		api.Type{Kind: api.Int, N: 1}, api.Type{Kind: api.Arr, N: 1}, api.Type{Kind: api.Null, N: 1}, api.Type{Kind: api.Void, N: 1},
		api.Type{Kind: -1}, api.Type{Kind: 6}, api.Type{Kind: 7}, api.Type{Kind: 8}, api.Type{Kind: math.MaxInt}, api.Type{Kind: math.MinInt, N: math.MinInt})
}

// P8.1: each instruction, in each method, on all stacks of up to three
// operands, against the words.
func TestAllStacks(t *testing.T) {
	all := stacks(3, types(number, numbers, null, ref(0), ref(1), ref(2), ref(3)))
	odd := stacks(2, append(oddTypes(), number, numbers))
	for f := range sample().Methods {
		for _, i := range sound(f) {
			m := with(f, i)
			for _, s := range slices.Concat(all, odd) {
				wantWords(t, m, f, 0, s)
			}
		}
	}
}

// P8.1: calls of four arguments, on all stacks of four and five.
func TestFourArguments(t *testing.T) {
	all := stacks(5, types(number, null, ref(1), ref(2), ref(3)))
	for _, i := range []api.Instr{op(api.OpCall, 6), op(api.OpVirt, 2, 0), op(api.OpCall, 2)} {
		m := with(1, i)
		for _, s := range all {
			wantWords(t, m, 1, 0, s)
		}
	}
}

// P8.1: an operand that no applet has fits just where the words let it.
func TestOddOperands(t *testing.T) {
	for _, x := range oddTypes() {
		isRef := x.Kind == api.Ref || x.Kind == api.Arr || x.Kind == api.Null
		for _, r := range []struct {
			i     api.Instr
			fits  bool
			after []api.Type
		}{
			{op(api.OpPop), true, nil},
			{op(api.OpDup), true, types(x, x)},
			{op(api.OpIsNull), isRef, types(number)},
			{op(api.OpCast, 1), isRef && x.Kind != api.Arr, types(ref(1))},
			{op(api.OpZero, 1), false, nil},
			{op(api.OpLen), x.Kind == api.Null, types(number)},
			{op(api.OpField, 0, 0), x.Kind == api.Null, types(number)},
		} {
			m := with(0, r.i)
			if !r.fits {
				wantStep(t, m, 0, 0, types(x), nil, nil, api.ErrType)
				continue
			}
			wantStep(t, m, 0, 0, types(x), r.after, []int{1}, api.OK)
		}
	}
}

// P8.1: no such method, no such instruction, whatever the operands.
func TestErrArg(t *testing.T) {
	far := []int{math.MinInt, -99, -2, -1, math.MaxInt}
	for _, m := range []api.Image{sample(), with(0, op(api.OpAdd)), {}} {
		for _, s := range [][]api.Type{nil, types(number), types(number, number), many(9, number)} {
			for _, f := range append(far, len(m.Methods), len(m.Methods)+1) {
				for _, pc := range []int{math.MinInt, -1, 0, 1, math.MaxInt} {
					wantStep(t, m, f, pc, s, nil, nil, api.ErrArg)
				}
			}
			for f, x := range m.Methods {
				for _, pc := range append(far, len(x.Code), len(x.Code)+1) {
					wantStep(t, m, f, pc, s, nil, nil, api.ErrArg)
				}
			}
		}
	}
}

// fitting are the fewest operands that an instruction of the sample takes.
func fitting(f int, i api.Instr) []api.Type {
	m := with(f, i)
	for _, s := range stacks(4, types(number, numbers, ref(2), ref(3))) {
		if _, _, e := wanted(m, f, 0, s); e == api.OK {
			return s
		}
	}
	panic(fmt.Sprint("nothing fits ", i))
}

// P8.1: what would go on behind the last instruction is ErrType; of the last
// one just OpJump and OpRet do not.
func TestBehindLast(t *testing.T) {
	for f := range sample().Methods {
		for _, i := range sound(f) {
			m := with(f, i)
			s := fitting(f, i)
			wantWords(t, m, f, 0, s)
			m.Methods[f].Code[0], m.Methods[f].Code[1] = m.Methods[f].Code[1], i
			last := api.ErrType
			if i.Op == api.OpJump || i.Op == api.OpRet {
				last = api.OK
			}
			if _, _, e := flow.Step(m, f, 1, s); e != last {
				t.Errorf("%v, the last one of %d: %d, want %d", i, f, e, last)
			}
			wantWords(t, m, f, 1, s)
		}
	}
}

// P8.1: where it goes on: OpJump, OpZero anywhere, also at themselves, or
// twice at the next one.
func TestNext(t *testing.T) {
	m := sample()
	m.Methods[0].Code = many(64, op(api.OpRet))
	m.Methods[0].Phi = make([]int, 64)
	for _, pc := range []int{0, 1, 31, 62, 63} {
		for a := range 64 {
			m.Methods[0].Code[pc] = op(api.OpJump, a)
			wantStep(t, m, 0, pc, types(null), types(null), []int{a}, api.OK)
			m.Methods[0].Code[pc] = op(api.OpZero, a)
			if pc < 63 {
				wantStep(t, m, 0, pc, types(null, number), types(null), []int{pc + 1, a}, api.OK)
			} else {
				wantStep(t, m, 0, pc, types(null, number), nil, nil, api.ErrType)
			}
		}
		m.Methods[0].Code[pc] = op(api.OpRet)
	}
	for pc := range 63 {
		m.Methods[0].Code[pc] = op(api.OpNull)
		wantStep(t, m, 0, pc, nil, types(null), []int{pc + 1}, api.OK)
	}
}

// P8.1: more than MaxOps operands behind an instruction are ErrType, as many
// are not; ahead of it there may be as many as it takes.
func TestMaxOps(t *testing.T) {
	for f := range sample().Methods {
		for _, i := range sound(f) {
			m := with(f, i)
			s := fitting(f, i)
			for deep := range 14 {
				wantWords(t, m, f, 0, append(many(deep, null), s...))
			}
		}
	}
	full := many(8, number)
	wantStep(t, with(0, op(api.OpPush)), 0, 0, full, nil, nil, api.ErrType)
	wantStep(t, with(0, op(api.OpPush)), 0, 0, full[:7], full, []int{1}, api.OK)
	wantStep(t, with(0, op(api.OpDup)), 0, 0, full, nil, nil, api.ErrType)
	wantStep(t, with(0, op(api.OpCall, 0)), 0, 0, full, full, []int{1}, api.OK)
	wantStep(t, with(0, op(api.OpJump, 0)), 0, 0, full, full, []int{0}, api.OK)
	wantStep(t, with(0, op(api.OpJump, 0)), 0, 0, many(9, number), nil, nil, api.ErrType)
	wantStep(t, with(0, op(api.OpPop)), 0, 0, many(9, number), full, []int{1}, api.OK)
	wantStep(t, with(0, op(api.OpAdd)), 0, 0, many(9, number), full, []int{1}, api.OK)
	wantStep(t, with(0, op(api.OpRet)), 0, 0, many(10, number), nil, nil, api.ErrType)
}

// P8.1, R1, R8: far more operands than there may be.
func TestLongStack(t *testing.T) {
	long := many(1<<20, number)
	for k := api.OpPush; k <= api.OpCast; k++ {
		wantStep(t, with(0, op(k, 0, 0)), 0, 0, long, nil, nil, api.ErrType)
	}
}

// P8.1: how many operands each instruction takes, worked out by hand.
func TestTakes(t *testing.T) {
	counts := map[int]int{
		api.OpPut: 1, api.OpPop: 1, api.OpDup: 1, api.OpZero: 1, api.OpIsNull: 1, api.OpSame: 2, api.OpArr: 1, api.OpLoad: 2,
		api.OpStore: 3, api.OpLen: 1, api.OpField: 1, api.OpSetField: 2, api.OpSetStatic: 1, api.OpCast: 1,
	}
	for k := api.OpAdd; k <= api.OpEqual; k++ {
		counts[k] = 2
	}
	called := []int{1, 0, 3, 3, 1, 2, 4}
	for f, ret := range []int{1, 0, 1, 1, 0, 1, 1} {
		for _, i := range sound(f) {
			want := counts[i.Op]
			switch i.Op {
			case api.OpRet:
				want = ret
			case api.OpCall:
				want = called[i.A]
			case api.OpVirt:
				want = called[sample().Classes[i.A].Slots[i.B]]
			}
			if got := flow.Takes(sample(), i, f); got != want {
				t.Errorf("Takes(%v, %d) = %d, want %d", i, f, got, want)
			}
			m := with(f, i)
			if s := fitting(f, i); len(s) != want {
				t.Errorf("%v of %d takes %v", i, f, s)
			} else if want > 0 {
				wantStep(t, m, f, 0, s[1:], nil, nil, api.ErrType)
			}
		}
	}
}

// P8.1, R1: of what is no instruction, or names a method that there is not:
// none.
func TestTakesNothing(t *testing.T) {
	m := sample()
	far := []int{math.MinInt, -1, 7, 12, 255, math.MaxInt}
	for _, f := range append(far, 0, 1) {
		for _, k := range []int{math.MinInt, -1, 0, 35, 99, math.MaxInt} {
			if n := flow.Takes(m, op(k), f); n != 0 {
				t.Errorf("Takes(%d, %d) = %d", k, f, n)
			}
		}
		for _, a := range far {
			if n := flow.Takes(m, op(api.OpCall, a), f); n != 0 {
				t.Errorf("a call of %d takes %d", a, n)
			}
		}
	}
	for _, f := range far {
		if n := flow.Takes(m, op(api.OpRet), f); n != 0 {
			t.Errorf("OpRet of %d takes %d", f, n)
		}
	}
}

// R1: whatever is handed in, each call answers, and the same again; beside an
// error there is nothing.
func TestAnything(t *testing.T) {
	ends := []int{math.MinInt, -1, 0, 1, 3, 4, 12, math.MaxInt}
	wild := sample()
	wild.Classes[0].Slots = []int{math.MinInt, 99, 1}
	wild.Classes[1].Super = 9
	wild.Methods[2].Ret, wild.Methods[2].Args = api.Type{Kind: 77}, types(api.Type{Kind: -7})
	for _, m := range []api.Image{{}, {Classes: []api.Class{{}}, Methods: make([]api.Method, 2)}, sample(), wild} {
		for k := -1; k <= 36; k++ {
			for _, a := range ends {
				for _, b := range ends {
					i := op(k, a, b)
					for f := range m.Methods {
						m.Methods[f].Code = []api.Instr{i, i}
					}
					for _, f := range ends {
						one, other := flow.Takes(m, i, f), flow.Takes(m, i, f)
						if one != other || one < 0 {
							t.Errorf("Takes(%v, %d) = %d, then %d", i, f, one, other)
						}
						after, next, e := flow.Step(m, f, 0, types(null, null, number))
						again, _, _ := flow.Step(m, f, 0, types(null, null, number))
						if !slices.Equal(after, again) || e != 0 && len(after)+len(next) > 0 {
							t.Errorf("Step of %v = %v, then %v, %v, %d", i, after, again, next, e)
						}
					}
				}
			}
		}
	}
}

// roomy is a list with spare room, in which there is something.
func roomy[T any](list []T, spare T) []T {
	return append(slices.Clone(list), spare, spare, spare, spare)[:len(list)]
}

// roomyImage has lists with spare room, in which there is something that would
// count, if it were there.
func roomyImage(m api.Image) api.Image {
	m = image.Copy(m)
	for c := range m.Classes {
		x := &m.Classes[c]
		x.Fields, x.Slots = roomy(x.Fields, ref(3)), roomy(x.Slots, 2)
	}
	for f := range m.Methods {
		x := &m.Methods[f]
		x.Args, x.Locals = roomy(x.Args, number), roomy(x.Locals, ref(2))
		x.Code, x.Phi = roomy(x.Code, op(api.OpNull)), roomy(x.Phi, 9)
	}
	m.Classes, m.Methods = roomy(m.Classes, api.Class{Super: -1}), roomy(m.Methods, method(number, nil, nil, op(api.OpRet)))
	m.Statics, m.Ints, m.Entries = roomy(m.Statics, numbers), roomy(m.Ints, 9), roomy(m.Entries, 0)
	return m
}

// whole is all that an image's lists hold, spare room included.
func whole(m api.Image) string {
	s := fmt.Sprint(m.Classes[:cap(m.Classes)], m.Statics[:cap(m.Statics)], m.Ints[:cap(m.Ints)],
		m.Methods[:cap(m.Methods)], m.Entries[:cap(m.Entries)], m.Stack, m.Heap)
	for _, c := range m.Classes {
		s += fmt.Sprint(c.Fields[:cap(c.Fields)], c.Slots[:cap(c.Slots)])
	}
	for _, x := range m.Methods {
		s += fmt.Sprint(x.Args[:cap(x.Args)], x.Locals[:cap(x.Locals)], x.Code[:cap(x.Code)], x.Phi[:cap(x.Phi)])
	}
	return s
}

// R4, R5: nothing that is handed in is changed, spare room included, or looked
// at behind its end; and an answer shares no memory with it, or with another
// answer.
func TestMemory(t *testing.T) {
	for f := range sample().Methods {
		for _, i := range sound(f) {
			plain := with(f, i)
			m := roomyImage(plain)
			before := whole(m)
			for _, s := range [][]api.Type{fitting(f, i), append(types(null), fitting(f, i)...), nil, types(ref(3))} {
				room := roomy(s, number)
				flow.Takes(m, i, f)
				after, next, _ := flow.Step(m, f, 0, room)
				other, others, _ := flow.Step(m, f, 0, room)
				for k := range after[:cap(after)] {
					after[:cap(after)][k] = ref(77)
				}
				for k := range next[:cap(next)] {
					next[:cap(next)][k] = 77
				}
				want, goes, _ := wanted(plain, f, 0, s)
				if !slices.Equal(other, want) || !slices.Equal(others, goes) {
					t.Errorf("%v: one answer changed with another one: %v, %v", i, other, others)
				}
				if !slices.Equal(room[:cap(room)][:len(s)+4], append(slices.Clone(s), many(4, number)...)) {
					t.Errorf("%v: the operands are changed: %v", i, room[:len(s)+4])
				}
				wantWords(t, plain, f, 0, s)
			}
			if whole(m) != before {
				t.Errorf("%v: the image is changed", i)
			}
		}
	}
}
