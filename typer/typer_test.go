package typer_test

import (
	"fmt"
	"math"
	"reflect"
	"slices"
	"testing"

	"plimsoll/api"
	"plimsoll/flow"
	"plimsoll/image"
	"plimsoll/kind"
	"plimsoll/sane"
	"plimsoll/typer"
)

var (
	number  = api.Type{Kind: api.Int}
	numbers = api.Type{Kind: api.Arr}
	null    = api.Type{Kind: api.Null}
	nothing = api.Type{Kind: api.Void}
)

func ref(n int) api.Type { return api.Type{Kind: api.Ref, N: n} }

// types is a list of them.
func types(list ...api.Type) []api.Type { return list }

// many is a list of so many like one.
func many[T any](n int, x T) []T { return slices.Repeat([]T{x}, n) }

// op is an instruction by its numbers, of which the last ones may lack.
func op(list ...int) api.Instr {
	list = append(list, 0, 0)
	return api.Instr{Op: list[0], A: list[1], B: list[2]}
}

// method is one of some code, with as many Phi.
func method(ret api.Type, args, locals []api.Type, code ...api.Instr) api.Method {
	return api.Method{Args: args, Locals: locals, Ret: ret, Code: code, Phi: make([]int, len(code))}
}

// of is an image with some code as the last of its methods. Classes 1 and 2
// are below 0, 3 is below 1; 4 is alone.
func of(code ...api.Instr) api.Image {
	ret := op(api.OpRet)
	return api.Image{
		Classes: []api.Class{
			{Super: -1, Fields: types(ref(0), number)},
			{Super: 0, Fields: types(ref(3)), Slots: []int{1}},
			{Super: 0, Slots: []int{2}},
			{Super: 1, Slots: []int{1}},
			{Super: -1},
		},
		Statics: types(numbers, ref(1), number),
		Ints:    []int32{7, -7},
		Methods: []api.Method{
			method(nothing, nil, nil, ret),
			method(ref(2), types(ref(1), number), nil, op(api.OpNull), ret),
			method(nothing, types(ref(0)), nil, ret),
			method(nothing, types(number, ref(3), numbers), types(ref(0), ref(2)), code...),
		},
	}
}

// mine is the method of of's code.
const mine = 3

// seen is what is known of an instruction with some operands.
func seen(stack ...api.Type) api.Shape { return api.Shape{Seen: true, Stack: stack} }

// unseen is what is known of one that is not met.
var unseen = api.Shape{}

// alike: do both lists of shapes say the same?
func alike(a, b []api.Shape) bool {
	return slices.EqualFunc(a, b, func(s, t api.Shape) bool { return s.Seen == t.Seen && slices.Equal(s.Stack, t.Stack) })
}

// wantTypes holds Check to the types of code.
func wantTypes(t *testing.T, code []api.Instr, want ...api.Shape) {
	t.Helper()
	m := of(code...)
	if e := sane.Check(m); e != api.OK {
		t.Errorf("%v: not sane: %d", code, e)
	}
	maps, f, pc, e := typer.Check(m)
	if e != api.OK || f != 0 || pc != 0 || len(maps) != mine+1 || !alike(maps[mine], want) {
		t.Errorf("%v: %v, %d, %d, %d, want %v", code, maps, f, pc, e, want)
	}
}

// wantNone holds Check to ErrType of a method of an image.
func wantNone(t *testing.T, m api.Image, method int) {
	t.Helper()
	if e := sane.Check(m); e != api.OK {
		t.Errorf("%v: not sane: %d", m.Methods, e)
	}
	maps, f, pc, e := typer.Check(m)
	if e != api.ErrType || f != method || len(maps) != 0 || pc < 0 || pc >= len(m.Methods[method].Code) {
		t.Errorf("%v: %v, %d, %d, %d, want none of %d", m.Methods[method].Code, maps, f, pc, e, method)
	}
}

// P9.1: code without branches, and without an end; nothing is Seen behind
// OpRet.
func TestStraight(t *testing.T) {
	wantTypes(t, []api.Instr{op(api.OpRet)}, seen())
	wantTypes(t, []api.Instr{op(api.OpJump, 0)}, seen())
	wantTypes(t,
		[]api.Instr{op(api.OpPush), op(api.OpArr, 9), op(api.OpDup), op(api.OpLen), op(api.OpNull), op(api.OpIsNull), op(api.OpLess), op(api.OpRet), op(api.OpPop)},
		seen(), seen(number), seen(numbers), seen(numbers, numbers), seen(numbers, number), seen(numbers, number, null),
		seen(numbers, number, number), seen(numbers, number), unseen)
	wantTypes(t,
		[]api.Instr{op(api.OpGet, 1), op(api.OpPush), op(api.OpVirt, 3, 0), op(api.OpCall, 2), op(api.OpJump, 0)},
		seen(), seen(ref(3)), seen(ref(3), number), seen(ref(2)), seen())
	wantTypes(t,
		[]api.Instr{op(api.OpJump, 2), op(api.OpAdd), op(api.OpPush), op(api.OpJump, 5), op(api.OpPop), op(api.OpNew, 4), op(api.OpRet)},
		seen(), unseen, seen(), seen(number), unseen, seen(number), seen(number, ref(4)))
}

// P9.1: what is not Seen may be wrong in all ways, and what comes from it does
// not count.
func TestUnseen(t *testing.T) {
	wantTypes(t, []api.Instr{op(api.OpRet), op(api.OpAdd), op(api.OpLen), op(api.OpPush)}, seen(), unseen, unseen, unseen)
	wantTypes(t, []api.Instr{op(api.OpRet), op(api.OpPush), op(api.OpJump, 0)}, seen(), unseen, unseen)
	wantTypes(t, []api.Instr{op(api.OpJump, 4), op(api.OpNull), op(api.OpJump, 5), op(api.OpJump, 3), op(api.OpPush), op(api.OpRet)},
		seen(), unseen, unseen, unseen, seen(), seen(number))
	// What a number tells is not looked at: 0 is always 0.
	wantTypes(t, []api.Instr{op(api.OpPush), op(api.OpZero, 3), op(api.OpRet), op(api.OpNull), op(api.OpRet)}, seen(), seen(number), seen(), seen(), seen(null))
}

// branch is code of which two ways, each of some instructions, go on together
// at instruction 4 + len(a) + len(b), and of which nothing but OpRet follows.
func branch(a, b []api.Instr) []api.Instr {
	code := []api.Instr{op(api.OpGet, 0), op(api.OpZero, 3+len(a))}
	code = slices.Concat(code, a, []api.Instr{op(api.OpJump, 4+len(a)+len(b))}, b, []api.Instr{op(api.OpJump, 4+len(a)+len(b)), op(api.OpRet)})
	return code
}

// P9.1: the Join of what comes from two ways, whichever of them is the first
// one, worked out by hand; none, where there is none.
func TestJoin(t *testing.T) {
	zero := api.Type{}
	gives := map[api.Type]api.Instr{
		number: op(api.OpPush), null: op(api.OpNull), numbers: op(api.OpStatic, 0),
		ref(0): op(api.OpNew, 0), ref(1): op(api.OpNew, 1), ref(2): op(api.OpNew, 2), ref(3): op(api.OpNew, 3), ref(4): op(api.OpNew, 4),
	}
	for _, r := range [][3]api.Type{
		{number, number, number}, {number, null, zero}, {number, numbers, zero}, {number, ref(0), zero},
		{null, null, null}, {null, numbers, numbers}, {null, ref(3), ref(3)}, {null, ref(4), ref(4)},
		{numbers, numbers, numbers}, {numbers, ref(0), zero}, {numbers, ref(4), zero},
		{ref(0), ref(0), ref(0)}, {ref(0), ref(1), ref(0)}, {ref(0), ref(2), ref(0)}, {ref(0), ref(3), ref(0)}, {ref(0), ref(4), zero},
		{ref(1), ref(1), ref(1)}, {ref(1), ref(2), ref(0)}, {ref(1), ref(3), ref(1)}, {ref(1), ref(4), zero},
		{ref(2), ref(2), ref(2)}, {ref(2), ref(3), ref(0)}, {ref(3), ref(3), ref(3)}, {ref(3), ref(4), zero},
	} {
		for _, p := range [][2]api.Type{{r[0], r[1]}, {r[1], r[0]}} {
			under := op(api.OpPush)
			code := branch([]api.Instr{under, gives[p[0]]}, []api.Instr{under, gives[p[1]]})
			if r[2] == zero {
				wantNone(t, of(code...), mine)
				continue
			}
			wantTypes(t, code, seen(), seen(number), seen(), seen(number), seen(number, p[0]), seen(), seen(number), seen(number, p[1]), seen(number, r[2]))
			// It is the same below another operand.
			over := branch([]api.Instr{gives[p[0]], under}, []api.Instr{gives[p[1]], under})
			wantTypes(t, over, seen(), seen(number), seen(), seen(p[0]), seen(p[0], number), seen(), seen(p[1]), seen(p[1], number), seen(r[2], number))
		}
	}
}

// P9.1: of what comes together there must be like many, though all that is
// there would go together.
func TestUnlikeMany(t *testing.T) {
	push := op(api.OpPush)
	for a := range 4 {
		for b := range 4 {
			code := branch(many(a, push), many(b, push))
			if a != b {
				wantNone(t, of(code...), mine)
				continue
			}
			if maps, _, _, e := typer.Check(of(code...)); e != api.OK || !alike(maps[mine][4+a+b:], []api.Shape{seen(many(a, number)...)}) {
				t.Errorf("%d of each: %v, %d", a, maps, e)
			}
		}
	}
}

// P9.1: there are no operands at the first one, whatever comes back to it: it
// has to be nothing.
func TestFirst(t *testing.T) {
	push, pop, again := op(api.OpPush), op(api.OpPop), op(api.OpJump, 0)
	wantTypes(t, []api.Instr{push, pop, again}, seen(), seen(number), seen())
	wantTypes(t, []api.Instr{push, op(api.OpZero, 0), op(api.OpRet)}, seen(), seen(number), seen())
	wantNone(t, of(push, again), mine)
	wantNone(t, of(op(api.OpNull), again), mine)
	wantNone(t, of(push, push, op(api.OpZero, 0), op(api.OpRet)), mine)
	wantNone(t, of(pop, push, again), mine)
	wantNone(t, of(pop, again), mine)
}

// P9.1: what grows behind a way back is joined again, as often as it takes,
// and so is all that follows from it.
func TestBack(t *testing.T) {
	get, zero := op(api.OpGet, 0), func(to int) api.Instr { return op(api.OpZero, to) }
	wantTypes(t, []api.Instr{
		op(api.OpNull), op(api.OpDup), op(api.OpIsNull), zero(7), op(api.OpPop), op(api.OpNew, 3), op(api.OpJump, 1),
		get, zero(12), op(api.OpPop), op(api.OpNew, 2), op(api.OpJump, 1), op(api.OpRet),
	}, seen(), seen(ref(0)), seen(ref(0), ref(0)), seen(ref(0), number), seen(ref(0)), seen(), seen(ref(3)),
		seen(ref(0)), seen(ref(0), number), seen(ref(0)), seen(), seen(ref(2)), seen(ref(0)))
	// A Ref of 3 comes first: it has the field, but what comes back has not.
	body := func(c int) []api.Instr {
		return []api.Instr{op(api.OpGet, 1), op(api.OpDup), op(api.OpField, 1, 2), op(api.OpPop), op(api.OpPop), op(api.OpNew, c), op(api.OpJump, 1)}
	}
	wantTypes(t, body(3), seen(), seen(ref(3)), seen(ref(3), ref(3)), seen(ref(3), ref(3)), seen(ref(3)), seen(), seen(ref(3)))
	wantTypes(t, body(1), seen(), seen(ref(1)), seen(ref(1), ref(1)), seen(ref(1), ref(3)), seen(ref(1)), seen(), seen(ref(1)))
	wantNone(t, of(body(2)...), mine)
	wantNone(t, of(body(4)...), mine)
	// An instruction that comes back to itself takes one away each time.
	wantNone(t, of(op(api.OpPush), op(api.OpPush), zero(2), op(api.OpRet)), mine)
	// What grows in the last round is not Seen in the ones before it.
	wantNone(t, of(op(api.OpNull), op(api.OpDup), op(api.OpLen), zero(6), op(api.OpNew, 1), op(api.OpJump, 1), op(api.OpRet)), mine)
}

// P9.1: a step of one that is Seen that can't be: each way by itself, and of
// the last one of a branch.
func TestErrType(t *testing.T) {
	ret := op(api.OpRet)
	for _, code := range [][]api.Instr{
		{op(api.OpPush)},
		{op(api.OpPop), ret},
		{op(api.OpDup), ret},
		{op(api.OpPush), op(api.OpAdd), ret},
		{op(api.OpNull), op(api.OpZero, 0), ret},
		{op(api.OpNull), op(api.OpPut, 0), ret},
		{op(api.OpGet, 3), op(api.OpPut, 1), ret},
		{op(api.OpGet, 1), op(api.OpLen), ret},
		{op(api.OpGet, 2), op(api.OpCast, 0), ret},
		{op(api.OpNew, 4), op(api.OpCall, 2), ret},
		{op(api.OpNew, 0), op(api.OpPush), op(api.OpVirt, 1, 0), ret},
		{op(api.OpPush), op(api.OpZero, 0)},
		{op(api.OpPush), op(api.OpZero, 3), ret, op(api.OpPop)},
	} {
		wantNone(t, of(code...), mine)
	}
	m := of(ret)
	for _, t0 := range types(number, numbers, ref(1)) {
		m.Methods[mine].Ret = t0
		wantNone(t, m, mine)
	}
}

// P9.1: as many as MaxOps may be there, one more may not.
func TestMaxOps(t *testing.T) {
	for n := range 12 {
		code := append(many(n, op(api.OpNull)), op(api.OpRet))
		if n > 8 {
			wantNone(t, of(code...), mine)
			continue
		}
		var want []api.Shape
		for k := range n + 1 {
			want = append(want, seen(many(k, null)...))
		}
		wantTypes(t, code, want...)
		if maps, _, _, _ := typer.Check(of(code...)); typer.Deep(maps, mine) != n {
			t.Errorf("%d operands: Deep is %d", n, typer.Deep(maps, mine))
		}
	}
	wantNone(t, of(op(api.OpJump, 2), op(api.OpRet), op(api.OpPush), op(api.OpJump, 2)), mine)
}

// P9.1: the first method that has no types, whichever others have none; those
// of each method, if all have.
func TestMethods(t *testing.T) {
	good, wrong := []api.Instr{op(api.OpRet)}, []api.Instr{op(api.OpRet), op(api.OpRet), op(api.OpRet)}
	for f := range wrong {
		wrong[f] = op(api.OpPop)
	}
	for n := range 13 {
		for set := range 1 << n {
			if n > 5 && set&(set-1) != 0 {
				continue
			}
			m, first := api.Image{}, n
			for f := range n {
				m.Methods = append(m.Methods, method(nothing, nil, nil, good...))
				if set>>f&1 == 1 {
					m.Methods[f] = method(nothing, nil, nil, wrong...)
					first = min(first, f)
				}
			}
			if first < n {
				wantNone(t, m, first)
				continue
			}
			maps, f, pc, e := typer.Check(m)
			if e != api.OK || f != 0 || pc != 0 || len(maps) != n {
				t.Errorf("%d methods: %v, %d, %d, %d", n, maps, f, pc, e)
			}
			for _, l := range maps {
				if !alike(l, []api.Shape{seen()}) {
					t.Errorf("%d methods: %v", n, maps)
				}
			}
		}
	}
}

// P9.1: the types of a method hang on nothing but it and what it names.
func TestOrder(t *testing.T) {
	one := method(number, types(number), nil, op(api.OpGet, 0), op(api.OpRet))
	two := method(nothing, nil, nil, op(api.OpNull), op(api.OpPop), op(api.OpRet))
	maps, _, _, e := typer.Check(api.Image{Methods: []api.Method{one, two, one}})
	if e != api.OK || len(maps) != 3 || !alike(maps[0], maps[2]) || !alike(maps[0], []api.Shape{seen(), seen(number)}) ||
		!alike(maps[1], []api.Shape{seen(), seen(null), seen()}) {
		t.Errorf("%v, %d", maps, e)
	}
}

// joined is what all of some types fit, and what fits all else that they fit;
// false, if there is none. Classes are below 8.
func joined(m api.Image, list []api.Type) (api.Type, bool) {
	var fit []api.Type
	for _, t := range append(types(number, numbers, null), ref(0), ref(1), ref(2), ref(3), ref(4), ref(5), ref(6), ref(7)) {
		if !slices.ContainsFunc(list, func(x api.Type) bool { return !kind.Sub(m.Classes, x, t) }) {
			fit = append(fit, t)
		}
	}
	for _, t := range fit {
		if !slices.ContainsFunc(fit, func(x api.Type) bool { return !kind.Sub(m.Classes, t, x) }) {
			return t, true
		}
	}
	return api.Type{}, false
}

// ways are the operands of each way that comes to each instruction of a
// method: all ways are gone, each by itself. False, if one of them can't go on.
func ways(m api.Image, f int) ([][][]api.Type, bool) {
	met := make([]map[string]bool, len(m.Methods[f].Code))
	all := make([][][]api.Type, len(met))
	type place struct {
		pc    int
		stack []api.Type
	}
	work := []place{{}}
	for len(work) > 0 {
		p := work[len(work)-1]
		work = work[:len(work)-1]
		if met[p.pc] == nil {
			met[p.pc] = map[string]bool{}
		}
		if key := fmt.Sprint(p.stack); met[p.pc][key] {
			continue
		} else {
			met[p.pc][key] = true
		}
		all[p.pc] = append(all[p.pc], p.stack)
		after, next, e := flow.Step(m, f, p.pc, p.stack)
		if e != api.OK {
			return nil, false
		}
		for _, to := range next {
			work = append(work, place{to, after})
		}
	}
	return all, true
}

// wanted are the types of a method, by all ways through it: as what each
// instruction gives hangs on no more than one of what it takes, the least types
// are what all ways come to.
func wanted(m api.Image, f int) ([]api.Shape, bool) {
	all, ok := ways(m, f)
	if !ok {
		return nil, false
	}
	shapes := make([]api.Shape, len(all))
	for pc, stacks := range all {
		if len(stacks) == 0 {
			continue
		}
		shapes[pc].Seen = true
		for k := range stacks[0] {
			var list []api.Type
			for _, s := range stacks {
				if len(s) != len(stacks[0]) {
					return nil, false
				}
				list = append(list, s[k])
			}
			t, ok := joined(m, list)
			if !ok {
				return nil, false
			}
			shapes[pc].Stack = append(shapes[pc].Stack, t)
		}
		for _, s := range stacks {
			if len(s) != len(stacks[0]) {
				return nil, false
			}
		}
	}
	return shapes, true
}

// wantWays holds Check to all ways through the code of an image's last method;
// the others have types. Is there an answer?
func wantWays(t *testing.T, m api.Image) bool {
	t.Helper()
	last := len(m.Methods) - 1
	want, ok := wanted(m, last)
	maps, f, pc, e := typer.Check(m)
	if !ok {
		if e != api.ErrType || f != last || pc < 0 || pc >= len(m.Methods[last].Code) || maps != nil {
			t.Errorf("%v: %v, %d, %d, %d, want none", m.Methods[last].Code, maps, f, pc, e)
		}
		return false
	}
	if e != api.OK || f != 0 || pc != 0 || len(maps) != last+1 || !alike(maps[last], want) {
		t.Errorf("%v: %v, %d, %d, %d, want %v", m.Methods[last].Code, maps, f, pc, e, want)
	}
	return true
}

// P9.1: all code of up to four of some instructions, of up to five of fewer,
// against all ways through it.
func TestSmall(t *testing.T) {
	for _, r := range []struct {
		n, good int
		of      []api.Instr
	}{
		{4, 1000, []api.Instr{
			op(api.OpGet, 0), op(api.OpNull), op(api.OpNew, 2), op(api.OpNew, 3), op(api.OpDup), op(api.OpPop), op(api.OpLen), op(api.OpRet),
			op(api.OpZero, 0), op(api.OpZero, 1), op(api.OpZero, 2), op(api.OpZero, 3), op(api.OpJump, 0), op(api.OpJump, 1), op(api.OpJump, 3),
		}},
		{6, 1000, []api.Instr{op(api.OpGet, 0), op(api.OpNull), op(api.OpNew, 3), op(api.OpZero, 1), op(api.OpZero, 4), op(api.OpJump, 1), op(api.OpRet)}},
	} {
		good := 0
		codes := [][]api.Instr{nil}
		for range r.n {
			var next [][]api.Instr
			for _, code := range codes {
				for _, i := range r.of {
					next = append(next, append(slices.Clone(code), i))
				}
			}
			codes = next
			for _, code := range codes {
				m := of(code...)
				// Some go to where no instruction is, yet.
				if sane.Check(m) == api.OK && wantWays(t, m) {
					good++
				}
			}
			if t.Failed() {
				return
			}
		}
		if good < r.good {
			t.Errorf("just %d of them have types", good)
		}
	}
}

// dice is what tells numbers that look like thrown ones, the same ones always.
func dice(seed uint64) func(n int) int {
	return func(n int) int {
		seed = seed*6364136223846793005 + 1442695040888963407
		return int(seed>>33) % n
	}
}

// grown is code of so many instructions, of which each one can go on, if all
// came by the first way; those that jump do it to where there are as many.
func grown(throw func(n int) int, n int) api.Image {
	m := of(many(n, op(api.OpRet))...)
	code := m.Methods[mine].Code
	deep := make([]int, n)
	var stack []api.Type
	for pc := 0; pc < n-1; pc++ {
		deep[pc] = len(stack)
		for {
			code[pc] = op(1+throw(34), throw(5), throw(3))
			if throw(2) == 0 { // these come together with others
				code[pc].Op = []int{api.OpPush, api.OpZero, api.OpNull, api.OpNew, api.OpStore}[throw(5)]
			}
			switch i := &code[pc]; i.Op {
			case api.OpRet, api.OpJump:
				continue
			case api.OpZero:
				i.A = pc + 1
			}
			after, _, e := flow.Step(m, mine, pc, stack)
			if e == api.OK && len(after) < 7 && sane.Check(m) == api.OK {
				stack = after
				break
			}
			if throw(9) == 0 && len(stack) > 0 {
				code[pc], stack = op(api.OpPop), stack[:len(stack)-1]
				break
			}
		}
	}
	deep[n-1] = len(stack)
	for pc, i := range code {
		for range 12 {
			few := throw(200) == 0 // then it is any place
			to := throw(n)
			if i.Op == api.OpZero && (few || deep[to] == deep[pc]-1) {
				code[pc].A = to
				break
			}
			if i.Op == api.OpNull && throw(30) == 0 && (few || deep[to] == deep[pc]) {
				code[pc] = op(api.OpJump, to)
				break
			}
		}
	}
	return m
}

// P9.1: long code, of all instructions, against all ways through it.
func TestLong(t *testing.T) {
	throw := dice(9)
	good, bad, apart := 0, 0, 0
	met := map[int]bool{}
	for k := range 6000 {
		m := grown(throw, 2+k%63)
		if e := sane.Check(m); e != api.OK {
			t.Fatalf("%v: not sane: %d", m.Methods[mine].Code, e)
		}
		if wantWays(t, m) {
			good++
			all, _ := ways(m, mine)
			for pc, i := range m.Methods[mine].Code {
				met[i.Op] = true
				if len(all[pc]) > 1 {
					apart++
				}
			}
		} else {
			bad++
		}
		if t.Failed() {
			return
		}
	}
	if good < 500 || bad < 500 || apart < 500 || len(met) != 34 {
		t.Errorf("%d have types, %d have none, of %d instructions; %d places are come to by ways that are not alike", good, bad, len(met), apart)
	}
}

// slow is an image of as much code as there may be, in which all goes back by
// small steps, again for each class that the last operand grows by.
func slow() api.Image {
	m := api.Image{}
	for c := range 8 {
		m.Classes = append(m.Classes, api.Class{Super: c - 1})
	}
	code := append(many(7, op(api.OpNull)), op(api.OpJump, 63))
	for c := range 8 {
		next := len(code) + 6
		code = append(code, op(api.OpDup), op(api.OpIsNull), op(api.OpZero, next), op(api.OpPop), op(api.OpNew, 7-c), op(api.OpJump, 63))
	}
	code = append(code, op(api.OpRet), op(api.OpJump, 8))
	for len(code) < 64 {
		code = append(code, op(api.OpJump, len(code)-1))
	}
	for range 12 {
		m.Methods = append(m.Methods, method(nothing, nil, nil, code...))
	}
	return m
}

// P9.1: types that grow often, from the last instruction back, in an image of
// the greatest size.
func TestSlow(t *testing.T) {
	m := slow()
	if e := sane.Check(m); e != api.OK {
		t.Fatal(e)
	}
	maps, f, pc, e := typer.Check(m)
	if e != api.OK || len(maps) != 12 {
		t.Fatal(maps, f, pc, e)
	}
	want := append(many(6, null), ref(0))
	for _, pc := range []int{8, 14, 50, 56, 57, 58, 63} {
		if !alike(maps[11][pc:pc+1], []api.Shape{seen(want...)}) {
			t.Errorf("%d: %v", pc, maps[11][pc])
		}
	}
	if n := typer.Deep(maps, 11); n != 8 {
		t.Errorf("Deep: %d", n)
	}
}

// P9.1: the most operands at any instruction, wherever it is.
func TestDeep(t *testing.T) {
	for n := range 5 {
		for at := range n {
			for deep := range 10 {
				l := many(n, seen(number))
				l[at] = seen(many(deep, null)...)
				want := deep
				if n > 1 {
					want = max(deep, 1)
				}
				maps := [][]api.Shape{nil, l, many(3, seen(many(12, number)...))}
				if got := typer.Deep(maps, 1); got != want {
					t.Errorf("Deep(%v, 1) = %d, want %d", maps, got, want)
				}
			}
		}
	}
	if n := typer.Deep([][]api.Shape{{unseen, seen(), unseen}}, 0); n != 0 {
		t.Errorf("without operands: %d", n)
	}
	if n := typer.Deep([][]api.Shape{{seen(), {Stack: types(number)}}}, 0); n != 1 {
		t.Errorf("at any instruction: %d", n)
	}
}

// P9.1, R1: 0 of what is no method; and of what has no instructions.
func TestDeepNone(t *testing.T) {
	for _, maps := range [][][]api.Shape{nil, {}, {{seen(number)}}, {{seen(number)}, {seen(number, null)}}} {
		for _, f := range []int{math.MinInt, -99, -2, -1, len(maps), len(maps) + 1, 12, math.MaxInt} {
			if n := typer.Deep(maps, f); n != 0 {
				t.Errorf("Deep(%v, %d) = %d", maps, f, n)
			}
		}
	}
	for f := range 2 {
		if n := typer.Deep([][]api.Shape{nil, {}}, f); n != 0 {
			t.Errorf("Deep of no instructions: %d", n)
		}
	}
	if n := typer.Deep([][]api.Shape{many(1<<20, seen(null)), {seen(many(1<<20, null)...)}}, 1); n != 1<<20 {
		t.Errorf("of a long one: %d", n)
	}
}

// P9.1, R1: an image without methods has no types, but no error.
func TestEmpty(t *testing.T) {
	for _, m := range []api.Image{{}, {Classes: []api.Class{{Super: -1}}, Statics: types(number), Methods: []api.Method{}}} {
		if maps, f, pc, e := typer.Check(m); len(maps) != 0 || f != 0 || pc != 0 || e != api.OK {
			t.Errorf("%v, %d, %d, %d", maps, f, pc, e)
		}
	}
}

// R8: what is not sane ends, too, and beside an error there are no types.
func TestNotSane(t *testing.T) {
	ends := []int{math.MinInt, -1, 0, 1, 2, 3, 4, 5, 77, math.MaxInt}
	odd := types(api.Type{Kind: api.Null, N: 3}, api.Type{Kind: api.Arr, N: 7}, ref(99), ref(-1), nothing, api.Type{}, api.Type{Kind: 77, N: 5})
	images := []api.Image{{Methods: make([]api.Method, 3)}, {Methods: []api.Method{{Code: []api.Instr{{}}}}}}
	for k := -1; k <= 36; k++ {
		for _, a := range ends {
			for _, t := range odd {
				m := of(op(api.OpNull), op(k, a, 1), op(api.OpPop), op(api.OpGet, 3), op(k, a, 0), op(api.OpZero, 1), op(api.OpJump, 2))
				m.Methods[mine].Locals[0] = t
				m.Methods[0].Args = types(t)
				m.Methods[1].Ret = t
				m.Statics[0] = t
				m.Classes[0] = api.Class{Super: 3, Slots: []int{a}, Fields: types(t)}
				images = append(images, m)
			}
		}
	}
	for _, x := range odd {
		for _, y := range odd {
			// Both come round to the same places, again and again.
			m := of(op(api.OpGet, 3), op(api.OpStatic, 2), op(api.OpZero, 6), op(api.OpPop), op(api.OpGet, 4), op(api.OpJump, 1), op(api.OpPop), op(api.OpNull), op(api.OpJump, 1))
			m.Methods[mine].Locals = types(x, y)
			images = append(images, m)
		}
	}
	for _, m := range images {
		one, f, pc, e := typer.Check(m)
		other, g, at, d := typer.Check(m)
		if f != g || pc != at || e != d || !reflect.DeepEqual(one, other) {
			t.Errorf("%v: %v, %d, %d, %d, then %v, %d, %d, %d", m, one, f, pc, e, other, g, at, d)
		}
		if e != api.OK && (len(one) != 0 || e != api.ErrType) || e == api.OK && (len(one) != len(m.Methods) || f+pc != 0) {
			t.Errorf("%v: %v, %d, %d, %d", m, one, f, pc, e)
		}
	}
}

// R3: what is not Seen has no operands, and what is Seen has none that are not
// there.
func TestPlain(t *testing.T) {
	throw := dice(5)
	for range 500 {
		maps, _, _, _ := typer.Check(grown(throw, 64))
		for _, l := range maps {
			for pc, s := range l {
				if !s.Seen && len(s.Stack) != 0 || slices.Contains(s.Stack, api.Type{}) {
					t.Errorf("%d: %v", pc, s)
				}
			}
		}
	}
}

// roomy is a list with spare room, in which there is something.
func roomy[T any](list []T, spare T) []T {
	return append(slices.Clone(list), spare, spare, spare, spare)[:len(list)]
}

// roomyImage has lists with spare room, in which there is something that would
// count, if it were there.
func roomyImage(m api.Image) api.Image {
	m = image.Copy(m)
	for c := range m.Classes {
		x := &m.Classes[c]
		x.Fields, x.Slots = roomy(x.Fields, ref(3)), roomy(x.Slots, 2)
	}
	for f := range m.Methods {
		x := &m.Methods[f]
		x.Args, x.Locals = roomy(x.Args, number), roomy(x.Locals, ref(2))
		x.Code, x.Phi = roomy(x.Code, op(api.OpRet)), roomy(x.Phi, 9)
	}
	m.Classes, m.Methods = roomy(m.Classes, api.Class{Super: -1}), roomy(m.Methods, method(number, nil, nil, op(api.OpRet)))
	m.Statics, m.Ints, m.Entries = roomy(m.Statics, numbers), roomy(m.Ints, 9), roomy(m.Entries, 0)
	return m
}

// whole is all that an image's lists hold, spare room included.
func whole(m api.Image) string {
	s := fmt.Sprint(m.Classes[:cap(m.Classes)], m.Statics[:cap(m.Statics)], m.Ints[:cap(m.Ints)],
		m.Methods[:cap(m.Methods)], m.Entries[:cap(m.Entries)], m.Stack, m.Heap)
	for _, c := range m.Classes {
		s += fmt.Sprint(c.Fields[:cap(c.Fields)], c.Slots[:cap(c.Slots)])
	}
	for _, x := range m.Methods {
		s += fmt.Sprint(x.Args[:cap(x.Args)], x.Locals[:cap(x.Locals)], x.Code[:cap(x.Code)], x.Phi[:cap(x.Phi)])
	}
	return s
}

// cells are all operands of an answer, spare room included.
func cells(maps [][]api.Shape) []*api.Type {
	var all []*api.Type
	for _, l := range maps[:cap(maps)] {
		for _, s := range l[:cap(l)] {
			for k := range s.Stack[:cap(s.Stack)] {
				all = append(all, &s.Stack[:cap(s.Stack)][k])
			}
		}
	}
	return all
}

// R4, R5: nothing that is handed in is changed, spare room included, or looked
// at behind its end; and no two lists of an answer, or of two answers, share
// memory, nor do they with what was handed in.
func TestMemory(t *testing.T) {
	throw := dice(3)
	images := []api.Image{of(op(api.OpGet, 0), op(api.OpZero, 2), op(api.OpJump, 0)), slow()}
	images = append(images, of(op(api.OpNull), op(api.OpNull), op(api.OpPush), op(api.OpZero, 6), op(api.OpJump, 4), op(api.OpRet), op(api.OpPop), op(api.OpJump, 7)))
	for range 300 {
		images = append(images, grown(throw, 40))
	}
	for _, plain := range images {
		want, f, pc, e := typer.Check(plain)
		m := roomyImage(plain)
		before := whole(m)
		one, _, _, _ := typer.Check(m)
		other, g, at, d := typer.Check(m)
		if f != g || pc != at || e != d || !slices.EqualFunc(want, other, alike) {
			t.Errorf("spare room counts: %v, %d, %d, %d, want %v, %d, %d, %d", other, g, at, d, want, f, pc, e)
		}
		met := map[*api.Type]bool{}
		for _, maps := range [][][]api.Shape{one, other, want} {
			for _, c := range cells(maps) {
				if met[c] {
					t.Errorf("%v: memory is shared", plain.Methods[len(plain.Methods)-1].Code)
				}
				met[c] = true
			}
		}
		typer.Deep(one, len(one)-1)
		for _, l := range one[:cap(one)] {
			for _, s := range l[:cap(l)] {
				for k := range s.Stack[:cap(s.Stack)] {
					s.Stack[:cap(s.Stack)][k] = ref(77)
				}
			}
			for k := range l[:cap(l)] {
				l[:cap(l)][k] = api.Shape{Stack: types(nothing)}
			}
		}
		if !slices.EqualFunc(want, other, alike) || whole(m) != before {
			t.Errorf("%v: another answer, or the image, is changed", plain.Methods[len(plain.Methods)-1].Code)
		}
	}
}

// R4: Deep changes nothing, and does not look behind an end.
func TestDeepMemory(t *testing.T) {
	s := seen(roomy(types(number, null), ref(1))...)
	s.Stack = roomy(types(number, null), ref(1))
	maps := roomy([][]api.Shape{roomy([]api.Shape{unseen, s}, seen(many(5, number)...))}, []api.Shape{seen(many(7, number)...)})
	before := fmt.Sprint(maps[:cap(maps)], maps[0][:cap(maps[0])], s.Stack[:cap(s.Stack)])
	if a, b := typer.Deep(maps, 0), typer.Deep(maps, 1); a != 2 || b != 0 {
		t.Errorf("%d, %d", a, b)
	}
	if after := fmt.Sprint(maps[:cap(maps)], maps[0][:cap(maps[0])], s.Stack[:cap(s.Stack)]); after != before {
		t.Errorf("%s, then %s", before, after)
	}
}
