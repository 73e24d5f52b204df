package tight_test

import (
	"slices"
	"testing"

	"plimsoll/api"
	"plimsoll/calls"
	"plimsoll/class"
	"plimsoll/flow"
	"plimsoll/kind"
)

// Methods of a thrown applet. Those ahead of ringing make things, and call what
// stands behind them; the others call each other in all ways, and make nothing.
const (
	entry = iota
	silent
	single
	mixed
	slotOne // slot 0 of 0 and 2
	slotTwo // slot 0 of 1
	ringing // an entry, too
	slotBack
	slotOver
	slotMore // slot 2 of 2
	inner
)

// weaver throws code of a method, an instruction at a time, each of which fits
// what the ones ahead of it have left, as chapter 8 says.
type weaver struct {
	throw  func(int) int
	m      api.Image // of which the method's code is the one instruction that is tried
	f      int
	code   []api.Instr
	ops    []api.Type
	floor  int // operands that are not to be taken
	nested int // in branches and rings
	ringed int // in rings
}

// blank is an applet whose methods have no code yet.
func blank(throw func(int) int) api.Image {
	some := func(n int) []api.Type {
		var list []api.Type
		for range n {
			list = append(list, types(number, numbers, ref(throw(4)), ref(0))[throw(4)])
		}
		return list
	}
	m := api.Image{
		Classes: []api.Class{
			{Super: -1, Fields: append(types(number, ref(1)), some(throw(2))...), Slots: []int{slotOne, slotBack}},
			{Super: 0, Fields: append(types(numbers), some(throw(2))...), Slots: []int{slotTwo, slotBack}},
			{Super: 0, Fields: some(throw(3)), Slots: []int{slotOne, slotOver, slotMore}},
			{Super: -1, Fields: some(throw(3))},
		},
		Statics: append(types(numbers, ref(0), number, ref(2)), some(throw(4))...),
		Ints:    []int32{0, 1, 2, 3, 5, -1, 9, -7, least, most},
		Methods: []api.Method{
			method(number, types(number, number), nil),
			method(nothing, nil, nil),
			method(number, types(number), nil),
			method(numbers, types(numbers, ref(0)), nil),
			method(number, types(ref(0), number), nil),
			method(number, types(ref(1), number), nil),
			method(number, types(number), nil),
			method(ref(0), types(ref(0)), nil),
			method(ref(0), types(ref(2)), nil),
			method(nothing, types(ref(2), numbers, number), nil),
			method(numbers, types(numbers, number), nil),
		},
		Entries: []int{entry, silent, single, ringing},
	}
	for f := range m.Methods {
		m.Methods[f].Locals = some(1 + throw(4))
		if f >= ringing {
			m.Methods[f].Depth = 1 + throw(3)
		}
	}
	return m
}

// weaverOf is one of a method.
func weaverOf(throw func(int) int, m api.Image, f int) *weaver {
	m.Methods = slices.Clone(m.Methods)
	m.Methods[f].Code = code(ret, ret)
	return &weaver{throw: throw, m: m, f: f}
}

// locals are all of its method's.
func (x *weaver) locals() []api.Type {
	return slices.Concat(x.m.Methods[x.f].Args, x.m.Methods[x.f].Locals)
}

// makes: may it make things here? In rings, be it of calls, none can say how
// many.
func (x *weaver) makes() bool { return x.f < ringing && x.ringed == 0 }

// may: may it be here, whatever its operands are?
func (x *weaver) may(i api.Instr) bool {
	switch i.Op {
	case api.OpNew, api.OpArr:
		return x.makes()
	}
	for _, g := range calls.Of(x.m, x.f) {
		if g < ringing && (g <= x.f || x.ringed > 0) {
			return false
		}
	}
	return true
}

// behind is what an instruction would leave; false, if it may not be here.
func (x *weaver) behind(i api.Instr) ([]api.Type, bool) {
	x.m.Methods[x.f].Code[0] = i
	after, _, e := flow.Step(x.m, x.f, 0, x.ops)
	ok := e == api.OK && flow.Takes(x.m, i, x.f) <= len(x.ops)-x.floor && x.may(i)
	return after, ok
}

// add adds an instruction, if it may be here.
func (x *weaver) add(list ...int) {
	if after, ok := x.behind(op(list...)); ok {
		x.code, x.ops = append(x.code, op(list...)), after
	}
}

// all are the instructions of an Op.
func (x *weaver) all(o int) []api.Instr {
	var out []api.Instr
	by := func(list []int, n int) {
		for k := range n {
			out = append(out, op(slices.Concat(list, []int{k})...))
		}
	}
	switch o {
	case api.OpPush:
		by([]int{o}, len(x.m.Ints))
	case api.OpGet, api.OpPut:
		by([]int{o}, len(x.locals()))
	case api.OpNew, api.OpCast:
		by([]int{o}, len(x.m.Classes))
	case api.OpArr:
		by([]int{o}, 9)
	case api.OpStatic, api.OpSetStatic:
		by([]int{o}, len(x.m.Statics))
	case api.OpCall:
		by([]int{o}, len(x.m.Methods))
	case api.OpField, api.OpSetField:
		for c := range x.m.Classes {
			by([]int{o, c}, len(class.Fields(x.m, c)))
		}
	case api.OpVirt:
		for c, y := range x.m.Classes {
			by([]int{o, c}, len(y.Slots))
		}
	default:
		by([]int{o}, 1)
	}
	return out
}

// wants are operands that fit an instruction.
func (x *weaver) wants(i api.Instr) []api.Type {
	some := types(numbers, ref(0), ref(1), ref(2), ref(3))
	switch i.Op {
	case api.OpPut:
		return types(x.locals()[i.A])
	case api.OpPop, api.OpDup:
		return types(number)
	case api.OpArr:
		return types(number)
	case api.OpIsNull:
		return types(some[x.throw(5)])
	case api.OpCast:
		return types(some[1+x.throw(4)])
	case api.OpSame:
		return types(some[x.throw(5)], some[x.throw(5)])
	case api.OpLoad:
		return types(numbers, number)
	case api.OpStore:
		return types(numbers, number, number)
	case api.OpLen:
		return types(numbers)
	case api.OpField:
		return types(ref(i.A))
	case api.OpSetField:
		return types(ref(i.A), class.Fields(x.m, i.A)[i.B])
	case api.OpSetStatic:
		return types(x.m.Statics[i.A])
	case api.OpCall:
		return x.m.Methods[i.A].Args
	case api.OpVirt:
		return append(types(ref(i.A)), x.m.Methods[x.m.Classes[i.A].Slots[i.B]].Args[1:]...)
	case api.OpPush, api.OpNull, api.OpGet, api.OpNew, api.OpStatic:
		return nil
	}
	return types(number, number)
}

// fit are those of a list that may be here.
func (x *weaver) fit(list []api.Instr) []api.Instr {
	return slices.DeleteFunc(slices.Clone(list), func(i api.Instr) bool {
		_, ok := x.behind(i)
		return !ok
	})
}

// addOne adds one of a list, if one may be here.
func (x *weaver) addOne(list []api.Instr) {
	if list = x.fit(list); len(list) > 0 {
		i := list[x.throw(len(list))]
		x.add(i.Op, i.A, i.B)
	}
}

// push leaves an operand that fits where a type is wanted.
func (x *weaver) push(want api.Type) {
	list := slices.DeleteFunc(x.fit(append(x.all(api.OpGet), x.all(api.OpStatic)...)), func(i api.Instr) bool {
		after, _ := x.behind(i)
		return !kind.Sub(x.m.Classes, after[len(after)-1], want)
	})
	switch {
	case len(list) > 0 && x.throw(3) > 0:
		x.addOne(list)
	case want == number && x.throw(3) > 0:
		x.add(api.OpPush, x.throw(5))
	case want == number:
		x.add(api.OpPush, x.throw(len(x.m.Ints)))
	case x.makes() && x.throw(12) > 0:
		x.make(want)
	case x.throw(4) > 0:
		x.addOne(list)
	default:
		x.add(api.OpNull)
	}
}

// make leaves a thing that was not there ahead of it.
func (x *weaver) make(want api.Type) {
	if want == numbers {
		x.add(api.OpPush, 1+x.throw(4))
		x.add(api.OpArr, 5+x.throw(3))
		return
	}
	list := class.Below(x.m, want.N)
	x.add(api.OpNew, list[x.throw(len(list))])
}

// step adds an instruction that goes on at the next one, of any Op; mostly with
// operands of its own, else it takes those that there are.
func (x *weaver) step() {
	o := 1 + x.throw(api.OpCast)
	if o == api.OpJump || o == api.OpZero || o == api.OpRet {
		return
	}
	list := x.all(o)
	if x.throw(3) > 0 {
		i := list[x.throw(len(list))]
		for _, want := range x.wants(i) {
			x.push(want)
		}
		if _, ok := x.behind(i); ok {
			list = code(i)
		}
	}
	x.addOne(list)
}

// walk adds so many parts.
func (x *weaver) walk(parts int) {
	for range parts {
		switch k := x.throw(14); {
		case k < 2 && x.nested < 2 && len(x.ops) < 6:
			x.branch()
		case k == 2 && x.nested < 2 && len(x.ops) < 6:
			x.ring()
		case k == 3 && x.nested > 0:
			x.end()
		default:
			x.step()
		}
	}
}

// block adds so many parts that take, and leave, nothing in all.
func (x *weaver) block(parts int) {
	floor := x.floor
	x.floor = len(x.ops)
	x.walk(parts)
	for len(x.ops) > x.floor {
		x.add(api.OpPop)
	}
	x.floor = floor
}

// branch does one of two things, by a number.
func (x *weaver) branch() {
	x.nested++
	x.push(number)
	zero := len(x.code)
	x.add(api.OpZero)
	x.block(1 + x.throw(3))
	over := len(x.code)
	x.add(api.OpJump)
	x.code[zero].A = len(x.code)
	x.block(x.throw(3))
	x.code[over].A = len(x.code)
	x.nested--
}

// ring does something till a number is 0, which may be never.
func (x *weaver) ring() {
	n := slices.Index(x.locals(), number)
	if n < 0 {
		return
	}
	x.nested++
	if x.throw(3) > 0 {
		x.add(api.OpPush, x.throw(5))
		x.add(api.OpPut, n)
	}
	start := len(x.code)
	x.add(api.OpGet, n)
	zero := len(x.code)
	x.add(api.OpZero)
	x.add(api.OpGet, n)
	x.add(api.OpPush, 1)
	x.add(api.OpSub)
	x.add(api.OpPut, n)
	x.ringed++
	x.block(1 + x.throw(2))
	x.ringed--
	x.code = append(x.code, op(api.OpJump, start))
	x.code[zero].A = len(x.code)
	x.nested--
}

// end ends the method; operands may be left behind.
func (x *weaver) end() {
	if len(x.ops) == api.MaxOps {
		x.add(api.OpPop)
	}
	if want := x.m.Methods[x.f].Ret; want != nothing {
		x.push(want)
	}
	x.add(api.OpRet)
}

// begin lets most locals, and of the first entry most statics, lead somewhere.
func (x *weaver) begin() {
	args := len(x.m.Methods[x.f].Args)
	for n, want := range x.m.Methods[x.f].Locals {
		if kind.IsRef(want) && x.throw(6) > 0 {
			x.push(want)
			x.add(api.OpPut, args+n)
		}
	}
	for n, want := range x.m.Statics {
		if kind.IsRef(want) && x.f == entry && x.throw(3) > 0 {
			x.make(want)
			x.add(api.OpSetStatic, n)
		}
	}
}

// thrown is an applet that chapter 16 takes in; false, if it has not become one.
func thrown(throw func(int) int) (*rig, bool) {
	m := blank(throw)
	for f := range m.Methods {
		x := weaverOf(throw, m, f)
		x.begin()
		x.walk(2 + throw(9))
		x.end()
		m.Methods[f].Code = x.code
	}
	m, maps, e := said(m)
	if e != api.OK {
		return nil, false
	}
	return rigOf(m, maps), true
}

// P19.1: mixed applets, run many times, to the same on values.
func TestThrown(t *testing.T) {
	throw := dice(7919)
	applets := 0
	var ends [api.Spent + 1]int
	met := map[int]int{}
	for range 1500 {
		x, ok := thrown(throw)
		if !ok {
			continue
		}
		applets++
		for range 12 {
			f := x.m.Entries[throw(len(x.m.Entries))]
			args := make([]int32, len(x.m.Methods[f].Args))
			for k := range args {
				args[k] = []int32{-1, 0, 1, 2, 3, 5, 40, least, most}[throw(9)]
			}
			fuel := []int{400, 400, 400, throw(60), throw(400)}[throw(5)]
			ends[x.run(t, f, args, fuel).end]++
			if t.Failed() {
				t.Fatalf("method %d, fuel %d, of %v", f, fuel, x.m)
			}
		}
		for o, n := range x.met {
			met[o] += n
		}
	}
	if applets < 600 {
		t.Errorf("%d applets were taken in", applets)
	}
	for o := api.OpPush; o <= api.OpCast; o++ {
		if met[o] < 500 {
			t.Errorf("%d was met %d times", o, met[o])
		}
	}
	for end := api.Done; end <= api.Spent; end++ {
		if ends[end] < 100 {
			t.Errorf("end %d was met %d times", end, ends[end])
		}
	}
}
