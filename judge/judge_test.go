package judge_test

import (
	"fmt"
	"math"
	"slices"
	"testing"

	"plimsoll/api"
	"plimsoll/flow"
	"plimsoll/image"
	"plimsoll/judge"
	"plimsoll/sane"
	"plimsoll/typer"
)

var (
	number  = api.Type{Kind: api.Int}
	numbers = api.Type{Kind: api.Arr}
	null    = api.Type{Kind: api.Null}
	nothing = api.Type{Kind: api.Void}
)

func ref(n int) api.Type { return api.Type{Kind: api.Ref, N: n} }

// types is a list of them.
func types(list ...api.Type) []api.Type { return list }

// many is a list of so many like one.
func many[T any](n int, x T) []T { return slices.Repeat([]T{x}, n) }

// op is an instruction by its numbers, of which the last ones may lack.
func op(list ...int) api.Instr {
	list = append(list, 0, 0)
	return api.Instr{Op: list[0], A: list[1], B: list[2]}
}

// method is one of some code, with as many Phi.
func method(ret api.Type, args, locals []api.Type, code ...api.Instr) api.Method {
	return api.Method{Args: args, Locals: locals, Ret: ret, Code: code, Phi: make([]int, len(code))}
}

// classes: 1 and 2 are below 0, 3 is below 1; 4 is alone.
func classes() []api.Class {
	return []api.Class{
		{Super: -1, Fields: types(ref(0), number)},
		{Super: 0, Fields: types(ref(3)), Slots: []int{1}},
		{Super: 0, Slots: []int{2}},
		{Super: 1, Slots: []int{1}},
		{Super: -1},
	}
}

// of is an image with some code as the last of its methods, which answers
// nothing.
func of(code ...api.Instr) api.Image {
	ret := op(api.OpRet)
	return api.Image{
		Classes: classes(),
		Statics: types(numbers, ref(1), number),
		Ints:    []int32{7, -7},
		Methods: []api.Method{
			method(nothing, nil, nil, ret),
			method(ref(2), types(ref(1), number), nil, op(api.OpNull), ret),
			method(nothing, types(ref(0)), nil, ret),
			method(nothing, types(number, ref(3), numbers), types(ref(0), ref(2)), code...),
		},
	}
}

// mine is the method of of's code.
const mine = 3

// seen is what is known of an instruction with some operands.
func seen(stack ...api.Type) api.Shape { return api.Shape{Seen: true, Stack: stack} }

// unseen is what is known of one that is not met.
var unseen = api.Shape{}

// shapesOf are an image's maps, with some shapes for the method of of's code.
func shapesOf(shapes ...api.Shape) [][]api.Shape {
	return [][]api.Shape{{seen()}, {seen(), seen(null)}, {seen()}, shapes}
}

// fit tells by hand, for the classes above, what is Sub of what.
func fit(a, b api.Type) bool {
	up := map[int][]int{0: {0}, 1: {1, 0}, 2: {2, 0}, 3: {3, 1, 0}, 4: {4}}
	switch a.Kind {
	case api.Null:
		return b.Kind == api.Arr || b.Kind == api.Ref || b.Kind == api.Null
	case api.Ref:
		return b.Kind == api.Ref && slices.Contains(up[a.N], b.N)
	case api.Int, api.Arr:
		return a == b
	}
	return false
}

// wantRight holds Right to an answer, for the shapes of code.
func wantRight(t *testing.T, want bool, code []api.Instr, shapes ...api.Shape) {
	t.Helper()
	m := of(code...)
	if e := sane.Check(m); e != api.OK {
		t.Errorf("%v: not sane: %d", code, e)
	}
	if got := judge.Right(m, shapesOf(shapes...)); got != want {
		t.Errorf("%v, %v: %t", code, shapes, got)
	}
}

// code is a list of instructions.
func code(list ...api.Instr) []api.Instr { return list }

// P10.1: straight code; each shape of it made wrong alone, in each way.
func TestStraight(t *testing.T) {
	list := code(op(api.OpPush), op(api.OpArr, 9), op(api.OpDup), op(api.OpLen), op(api.OpNull), op(api.OpIsNull), op(api.OpLess), op(api.OpPop), op(api.OpPop), op(api.OpRet), op(api.OpPop))
	good := func() []api.Shape {
		return []api.Shape{seen(), seen(number), seen(numbers), seen(numbers, numbers), seen(numbers, number), seen(numbers, number, null),
			seen(numbers, number, number), seen(numbers, number), seen(numbers), seen(), unseen}
	}
	wantRight(t, true, list, good()...)
	for pc := range 10 {
		stack := good()[pc].Stack
		wrong := func(s api.Shape) {
			t.Helper()
			shapes := good()
			shapes[pc] = s
			wantRight(t, false, list, shapes...)
		}
		wrong(unseen)
		wrong(api.Shape{Stack: stack})
		wrong(seen(append(slices.Clone(stack), number)...))
		wrong(seen(append(types(null), stack...)...))
		for k := range stack {
			for _, other := range types(number, numbers, ref(0), ref(4), nothing, api.Type{}) {
				// An Arr fits where a Null comes, and OpIsNull takes it, too.
				if other != stack[k] && (stack[k] != null || other == number || other == nothing || other == api.Type{}) {
					operands := slices.Clone(stack)
					operands[k] = other
					wrong(seen(operands...))
				}
			}
			wrong(seen(stack[1:]...))
			wrong(seen(stack[:k]...))
		}
	}
}

// P10.1: the first one is Seen, without operands, though all else goes on well.
func TestFirst(t *testing.T) {
	ret, again := code(op(api.OpRet)), code(op(api.OpJump, 0))
	wantRight(t, true, ret, seen())
	wantRight(t, true, again, seen())
	for _, s := range []api.Shape{unseen, seen(number), seen(null), seen(numbers, ref(1)), {Stack: types(number)}} {
		wantRight(t, false, ret, s)
		wantRight(t, false, again, s)
	}
	back := code(op(api.OpPush), op(api.OpPop), op(api.OpJump, 0))
	wantRight(t, true, back, seen(), seen(number), seen())
	wantRight(t, false, back, seen(number), seen(number, number), seen(number))
	wantRight(t, false, back, unseen, unseen, unseen)
	wantRight(t, false, back, unseen, seen(number), seen())
	// What comes back to it has operands.
	wantRight(t, false, code(op(api.OpPush), op(api.OpJump, 0)), seen(), seen(number))
	wantRight(t, false, code(op(api.OpNull), op(api.OpPush), op(api.OpZero, 0), op(api.OpRet)), seen(), seen(null), seen(null, number), seen(null))
}

// gives is, for each type that may be there, an instruction that gives it.
func gives() map[api.Type]api.Instr {
	return map[api.Type]api.Instr{
		number: op(api.OpPush), null: op(api.OpNull), numbers: op(api.OpStatic, 0),
		ref(0): op(api.OpNew, 0), ref(1): op(api.OpNew, 1), ref(2): op(api.OpNew, 2), ref(3): op(api.OpNew, 3), ref(4): op(api.OpNew, 4),
	}
}

// P10.1: what comes has to be Sub of what is known, wherever it lies.
func TestSub(t *testing.T) {
	push, ret := op(api.OpPush), op(api.OpRet)
	for a, i := range gives() {
		for b := range gives() {
			want := fit(a, b)
			wantRight(t, want, code(i, op(api.OpPop), ret), seen(), seen(b), seen())
			wantRight(t, want, code(i, ret), seen(), seen(b))
			wantRight(t, want, code(push, i, ret), seen(), seen(number), seen(number, b))
			wantRight(t, want, code(i, push, ret), seen(), seen(b), seen(b, number))
			wantRight(t, want, code(i, push, ret), seen(), seen(a), seen(b, number))
			wantRight(t, want, code(i, i, i, ret), seen(), seen(a), seen(a, a), seen(a, b, a))
			wantRight(t, want, code(i, op(api.OpJump, 3), ret, ret), seen(), seen(a), unseen, seen(b))
		}
	}
}

// P10.1: types may be wider than they need be, as long as each that is Seen
// goes on by itself: no more is known there than is said.
func TestWide(t *testing.T) {
	list := code(op(api.OpNew, 3), op(api.OpField, 1, 2), op(api.OpPop), op(api.OpRet))
	wantRight(t, true, list, seen(), seen(ref(3)), seen(ref(3)), seen())
	wantRight(t, true, list, seen(), seen(ref(1)), seen(ref(3)), seen())
	wantRight(t, true, list, seen(), seen(ref(1)), seen(ref(0)), seen())
	wantRight(t, false, list, seen(), seen(ref(0)), seen(ref(3)), seen())
	wantRight(t, false, list, seen(), seen(ref(3)), seen(ref(2)), seen())
	wantRight(t, false, list, seen(), seen(null), seen(ref(3)), seen())
	cast := code(op(api.OpNull), op(api.OpCast, 2), op(api.OpPop), op(api.OpRet))
	for s, want := range map[api.Type]bool{null: true, ref(0): true, ref(4): true, numbers: false, number: false} {
		wantRight(t, want, cast, seen(), seen(s), seen(ref(2)), seen())
	}
	// What comes round is as wide as what it comes from.
	round := code(op(api.OpNull), op(api.OpDup), op(api.OpPop), op(api.OpJump, 1))
	for _, s := range types(null, numbers, ref(0), ref(3), ref(4)) {
		wantRight(t, true, round, seen(), seen(s), seen(s, s), seen(s))
	}
	wantRight(t, true, round, seen(), seen(ref(1)), seen(ref(1), ref(0)), seen(ref(1)))
	wantRight(t, false, round, seen(), seen(ref(1)), seen(ref(0), ref(1)), seen(ref(1)))
	wantRight(t, false, round, seen(), seen(ref(1)), seen(ref(0), ref(1)), seen(ref(0)))
	wantRight(t, true, round, seen(), seen(ref(0)), seen(ref(0), ref(0)), seen(ref(0)))
}

// P10.1: what is not Seen may be anything, as long as nothing comes there; what
// is Seen, though nothing comes there, has to go on like all others.
func TestUnseen(t *testing.T) {
	ret, push, pop := op(api.OpRet), op(api.OpPush), op(api.OpPop)
	list := code(ret, pop, op(api.OpJump, 4), pop, op(api.OpJump, 4), push)
	wantRight(t, true, list, seen(), unseen, unseen, unseen, unseen, unseen)
	odd := api.Shape{Stack: types(nothing, ref(77))}
	wantRight(t, true, list, seen(), odd, odd, odd, odd, odd)
	wantRight(t, true, list, seen(), unseen, unseen, unseen, seen(), unseen)
	wantRight(t, true, list, seen(), unseen, seen(), unseen, seen(), unseen)
	wantRight(t, false, list, seen(), unseen, seen(), unseen, unseen, unseen)
	wantRight(t, false, list, seen(), unseen, seen(null), unseen, seen(), unseen)
	wantRight(t, true, list, seen(), seen(number), seen(), unseen, seen(), unseen)
	wantRight(t, true, list, seen(), seen(null, numbers), seen(null), seen(ref(3), number), seen(ref(0)), unseen)
	wantRight(t, false, list, seen(), seen(), unseen, unseen, unseen, unseen)
	wantRight(t, false, list, seen(), unseen, unseen, unseen, unseen, seen()) // the last one goes on
	wantRight(t, false, list, seen(), unseen, unseen, seen(number), unseen, unseen)
	// Nothing goes on from OpRet, whatever is left there.
	wantRight(t, true, code(ret, ret), seen(), seen(number, null, ref(3)))
	wantRight(t, true, code(ret, ret), seen(), seen())
	wantRight(t, true, code(op(api.OpJump, 1), ret), seen(), seen())
	wantRight(t, false, code(op(api.OpJump, 1), ret), seen(), unseen)
}

// P10.1: both ways of a branch, each broken alone.
func TestBranch(t *testing.T) {
	list := code(op(api.OpNull), op(api.OpGet, 0), op(api.OpZero, 4), op(api.OpRet), op(api.OpPop), op(api.OpRet))
	shapes := func(next, other api.Shape) []api.Shape {
		return []api.Shape{seen(), seen(null), seen(null, number), next, other, seen()}
	}
	for _, s := range []api.Shape{seen(null), seen(numbers), seen(ref(2))} {
		wantRight(t, true, list, shapes(s, seen(ref(1)))...)
		wantRight(t, true, list, shapes(seen(ref(1)), s)...)
	}
	for _, s := range []api.Shape{unseen, {Stack: types(null)}, seen(), seen(number), seen(null, null), seen(null, number)} {
		wantRight(t, false, list, shapes(s, seen(null))...)
		wantRight(t, false, list, shapes(seen(null), s)...)
	}
	// Both ways come to one instruction, from which both have to go on.
	join := code(op(api.OpGet, 0), op(api.OpZero, 4), op(api.OpNew, 1), op(api.OpJump, 5), op(api.OpNew, 2), op(api.OpPop), op(api.OpRet))
	for s, want := range map[api.Type]bool{ref(0): true, ref(1): false, ref(2): false, ref(3): false, ref(4): false, null: false, numbers: false} {
		wantRight(t, want, join, seen(), seen(number), seen(), seen(ref(1)), seen(), seen(s), seen())
	}
}

// P10.1: Step's error alone: nothing goes on that would have to be under
// anything, or all that goes on would be.
func TestStep(t *testing.T) {
	ret := op(api.OpRet)
	for n := range 12 {
		var shapes []api.Shape
		for k := range n + 1 {
			shapes = append(shapes, seen(many(k, null)...))
		}
		wantRight(t, n <= 8, append(many(n, op(api.OpNull)), ret), shapes...)
	}
	wantRight(t, false, code(op(api.OpPush)), seen())
	wantRight(t, false, code(ret, op(api.OpPush), op(api.OpZero, 0)), seen(), unseen, seen(number))
	m := of(ret, ret)
	m.Methods[mine].Ret = ref(1)
	for x, want := range map[api.Type]bool{ref(1): true, ref(3): true, null: true, ref(0): false, ref(2): false, numbers: false, number: false} {
		m.Methods[mine].Code[0] = gives()[x]
		if got := judge.Right(m, shapesOf(seen(), seen(x))); got != want {
			t.Errorf("a result of %v: %t", x, got)
		}
	}
}

// right is what Right has to answer, word by word.
func right(m api.Image, maps [][]api.Shape) bool {
	wrong := len(maps) != len(m.Methods)
	for f := 0; !wrong && f < len(maps); f++ {
		all := maps[f]
		wrong = len(all) != len(m.Methods[f].Code) || !all[0].Seen || len(all[0].Stack) > 0
		for pc := 0; !wrong && pc < len(all); pc++ {
			if !all[pc].Seen {
				continue
			}
			after, next, e := flow.Step(m, f, pc, all[pc].Stack)
			wrong = e != api.OK
			for _, to := range next {
				wrong = wrong || !all[to].Seen || !below(after, all[to].Stack)
			}
		}
	}
	return !wrong
}

// below: does each of some operands fit, of as many?
func below(a, b []api.Type) bool {
	if len(a) != len(b) {
		return false
	}
	for k := range a {
		if !fit(a[k], b[k]) {
			return false
		}
	}
	return true
}

// over is what Over has to answer, word by word, for the classes above.
func over(a, b [][]api.Shape) bool {
	if len(a) != len(b) {
		return false
	}
	for f := range a {
		if len(a[f]) != len(b[f]) {
			return false
		}
		for pc, s := range a[f] {
			if s.Seen && (!b[f][pc].Seen || !below(s.Stack, b[f][pc].Stack)) {
				return false
			}
		}
	}
	return true
}

// wantWords holds Right to the words, and to what follows from them: what is
// Right is Over the least types. Is it Right?
func wantWords(t *testing.T, m api.Image, least, maps [][]api.Shape, found bool) bool {
	t.Helper()
	got := judge.Right(m, maps)
	if got != right(m, maps) {
		t.Errorf("%v, %v: %t", m.Methods[mine].Code, maps[mine:], got)
	}
	if got && (!found || !judge.Over(m, least, maps)) {
		t.Errorf("%v: %v is right, but not over %v", m.Methods[mine].Code, maps[mine:], least)
	}
	if found && judge.Over(m, least, maps) != over(least, maps) {
		t.Errorf("%v: is %v over %v?", m.Methods[mine].Code, maps[mine:], least)
	}
	return got
}

// each goes over all lists of so many of some things.
func each[T any](n int, of []T, do func(list []T)) {
	list := make([]T, n)
	var put func(k int)
	put = func(k int) {
		if k == n {
			do(slices.Clone(list))
			return
		}
		for _, x := range of {
			list[k] = x
			put(k + 1)
		}
	}
	put(0)
}

// P10.1: all code of up to three of some instructions, with all shapes out of
// some: by the words, and by what follows from them.
func TestSmall(t *testing.T) {
	instrs := code(op(api.OpGet, 0), op(api.OpNull), op(api.OpNew, 3), op(api.OpPop), op(api.OpDup), op(api.OpRet), op(api.OpZero, 0), op(api.OpZero, 2), op(api.OpJump, 1))
	shapes := []api.Shape{unseen, {Stack: types(null)}, seen(), seen(number), seen(null), seen(ref(3)), seen(ref(1)), seen(null, null), seen(ref(0), ref(3))}
	good, wide := 0, 0
	for n := 1; n <= 3; n++ {
		each(n, instrs, func(list []api.Instr) {
			m := of(list...)
			if sane.Check(m) != api.OK {
				return // it goes to where no instruction is
			}
			least, _, _, e := typer.Check(m)
			each(n, shapes, func(all []api.Shape) {
				maps := shapesOf(all...)
				if wantWords(t, m, least, maps, e == api.OK) {
					good++
					if !over(maps, least) {
						wide++
					}
				}
			})
			if e == api.OK && (!judge.Right(m, least) || !judge.Over(m, least, least)) {
				t.Errorf("%v: %v is not right", list, least)
			}
		})
	}
	if good < 1000 || wide < 500 {
		t.Errorf("%d are right, %d of them more than the least ones", good, wide)
	}
}

// dice is what tells numbers that look like thrown ones, the same ones always.
func dice(seed uint64) func(n int) int {
	return func(n int) int {
		seed = seed*6364136223846793005 + 1442695040888963407
		return int(seed>>33) % n
	}
}

// thrown is code of so many instructions, of which each one can go on behind
// the one ahead of it; some ways come together where none goes on.
func thrown(throw func(n int) int, n int) api.Image {
	m := of(many(n, op(api.OpRet))...)
	list := m.Methods[mine].Code
	var stack []api.Type
	for pc := range n - 1 {
		for {
			list[pc] = op(1+throw(34), throw(5), throw(3))
			if i := &list[pc]; i.Op == api.OpRet || i.Op == api.OpJump {
				continue
			} else if i.Op == api.OpZero {
				i.A = pc + 1 + throw(2)*throw(n-pc)
				i.A = min(i.A, n-1)
			}
			after, _, e := flow.Step(m, mine, pc, stack)
			if e == api.OK && len(after) < 7 && sane.Check(m) == api.OK {
				stack = after
				break
			}
			if throw(9) == 0 && len(stack) > 0 {
				list[pc], stack = op(api.OpPop), stack[:len(stack)-1]
				break
			}
		}
	}
	return m
}

// copied are the same maps, in memory of their own.
func copied(maps [][]api.Shape) [][]api.Shape {
	all := make([][]api.Shape, len(maps))
	for f, shapes := range maps {
		all[f] = slices.Clone(shapes)
		for pc, s := range shapes {
			all[f][pc].Stack = slices.Clone(s.Stack)
		}
	}
	return all
}

// P10.1: long code of all instructions, with the least types, and with others
// that differ in one place.
func TestLong(t *testing.T) {
	throw := dice(10)
	some := types(number, numbers, null, ref(0), ref(1), ref(2), ref(3), ref(4), nothing, api.Type{})
	good, bad := 0, 0
	met := map[int]bool{}
	for k := range 3000 {
		m := thrown(throw, 2+k%63)
		least, _, _, e := typer.Check(m)
		if e != api.OK {
			continue
		}
		if !judge.Right(m, least) || !judge.Over(m, least, least) {
			t.Fatalf("%v: %v is not right", m.Methods[mine].Code, least)
		}
		for _, i := range m.Methods[mine].Code {
			met[i.Op] = true
		}
		for range 40 {
			maps := copied(least)
			s := &maps[mine][throw(len(maps[mine]))]
			switch n := len(s.Stack); {
			case n > 0 && throw(9) > 0:
				s.Stack[throw(n)] = some[throw(len(some))]
			case throw(2) == 0:
				s.Seen = !s.Seen
			default:
				s.Stack = append(s.Stack, some[throw(len(some))])
			}
			if wantWords(t, m, least, maps, true) {
				good++
			} else {
				bad++
			}
		}
		if t.Failed() {
			return
		}
	}
	if good < 1000 || bad < 1000 || len(met) < 33 {
		t.Errorf("%d are right, %d are not, of %d instructions", good, bad, len(met))
	}
}

// P10.1: as many shapes as instructions, and for each method.
func TestMany(t *testing.T) {
	m := of(op(api.OpPush), op(api.OpPop), op(api.OpRet), op(api.OpRet))
	good := shapesOf(seen(), seen(number), seen(), unseen)
	if !judge.Right(m, good) {
		t.Fatal("it is right")
	}
	for f := range good {
		for n := range len(good[f]) {
			maps := copied(good)
			maps[f] = maps[f][:n]
			if judge.Right(m, maps) {
				t.Errorf("%d: just %d shapes", f, n)
			}
		}
		for _, s := range []api.Shape{unseen, seen(), seen(number)} {
			maps := copied(good)
			maps[f] = append(maps[f], s)
			if judge.Right(m, maps) {
				t.Errorf("%d: a shape more, %v", f, s)
			}
		}
		if judge.Right(m, good[:f]) || judge.Right(m, slices.Delete(copied(good), f, f+1)) {
			t.Errorf("without %d", f)
		}
	}
	for _, more := range [][]api.Shape{nil, {}, {unseen}, {seen()}} {
		if judge.Right(m, append(copied(good), more)) {
			t.Errorf("there is no method with %v", more)
		}
	}
	if judge.Right(m, nil) || judge.Right(m, make([][]api.Shape, 4)) {
		t.Error("none")
	}
	for _, m := range []api.Image{{}, {Classes: classes(), Methods: []api.Method{}}} {
		if !judge.Right(m, nil) || !judge.Right(m, [][]api.Shape{}) || judge.Right(m, [][]api.Shape{nil}) || judge.Right(m, [][]api.Shape{{seen()}}) {
			t.Error("without methods")
		}
	}
}

// P10.1: one place that is wrong, in whichever of the methods, makes all wrong;
// each method goes by its own code.
func TestMethods(t *testing.T) {
	long := method(nothing, types(number), nil, op(api.OpGet), op(api.OpPop), op(api.OpRet))
	short := method(number, types(number), nil, op(api.OpGet), op(api.OpRet))
	for n := 1; n <= 12; n++ {
		var m api.Image
		var good [][]api.Shape
		for f := range n {
			if f%3 == 0 {
				m.Methods, good = append(m.Methods, long), append(good, []api.Shape{seen(), seen(number), seen()})
			} else {
				m.Methods, good = append(m.Methods, short), append(good, []api.Shape{seen(), seen(number)})
			}
		}
		if sane.Check(m) != api.OK || !judge.Right(m, good) || !judge.Over(m, good, good) {
			t.Errorf("%d methods: wrong", n)
		}
		for f, shapes := range good {
			for pc := range shapes {
				maps := copied(good)
				maps[f][pc] = seen(null)
				if judge.Right(m, maps) || judge.Over(m, good, maps) || judge.Over(m, maps, good) {
					t.Errorf("%d methods: %d, %d is right", n, f, pc)
				}
				maps[f][pc] = unseen
				if judge.Right(m, maps) || judge.Over(m, good, maps) || !judge.Over(m, maps, good) {
					t.Errorf("%d methods: %d, %d is not known, but right", n, f, pc)
				}
			}
			for g := range n {
				maps := copied(good)
				maps[f], maps[g] = maps[g], maps[f]
				if got := judge.Right(m, maps); got != (f%3 == 0 == (g%3 == 0)) {
					t.Errorf("%d methods: %d and %d changed: %t", n, f, g, got)
				}
			}
		}
	}
}

// P10.1: Over, for all pairs of types, wherever they lie.
func TestOverTypes(t *testing.T) {
	m := api.Image{Classes: classes()}
	some := types(number, numbers, null, ref(0), ref(1), ref(2), ref(3), ref(4))
	for _, a := range some {
		for _, b := range some {
			for n := 1; n <= 9; n++ {
				for k := range n {
					x, y := many(n, null), many(n, ref(0))
					x[k], y[k] = a, b
					one := [][]api.Shape{{unseen, seen()}, nil, {seen(number), seen(x...), unseen}}
					other := [][]api.Shape{{seen(number), seen()}, nil, {seen(number), seen(y...), seen(number)}}
					if got := judge.Over(m, one, other); got != fit(a, b) {
						t.Errorf("is %v over %v? %t", other, one, got)
					}
				}
			}
		}
	}
}

// P10.1: Over, for all pairs of up to two shapes out of some: what is not Seen
// does not count in a, and does in b, whatever operands it has.
func TestOverShapes(t *testing.T) {
	m := api.Image{Classes: classes()}
	shapes := []api.Shape{
		unseen, {Stack: types(null)}, {Stack: types(number, nothing)}, seen(), seen(number), seen(null), seen(ref(0)), seen(ref(3)),
		seen(null, number), seen(ref(1), number), seen(number, null), seen(null, number, null),
	}
	var all [][][]api.Shape
	for n := range 3 {
		each(n, shapes, func(list []api.Shape) {
			all = append(all, [][]api.Shape{list})
			if n == 2 {
				all = append(all, [][]api.Shape{list[:1], list[1:]})
			}
		})
	}
	for _, a := range all {
		for _, b := range all {
			if got := judge.Over(m, a, b); got != over(a, b) {
				t.Errorf("is %v over %v? %t", b, a, got)
			}
		}
	}
}

// P10.1: Over asks for as many everywhere, also where nothing is Seen, and for
// nothing of the image's methods.
func TestOverMany(t *testing.T) {
	m := of(op(api.OpRet))
	none := []api.Shape{unseen, unseen}
	for _, a := range [][][]api.Shape{nil, {nil}, {nil, nil}, {none}, {none, none}, {none[:1], none}, {none, none[:1]}, {none, none, nil}} {
		for _, b := range [][][]api.Shape{nil, {nil}, {nil, nil}, {none}, {none, none}, {none[:1], none}, {none, none[:1]}, {none, none, nil}} {
			if got := judge.Over(m, a, b); got != over(a, b) {
				t.Errorf("is %v over %v? %t", b, a, got)
			}
		}
	}
	if !judge.Over(m, nil, [][]api.Shape{}) || !judge.Over(m, [][]api.Shape{}, nil) || !judge.Over(m, [][]api.Shape{nil}, [][]api.Shape{{}}) {
		t.Error("nil and empty lists are not the same")
	}
	empty := api.Shape{Seen: true, Stack: []api.Type{}}
	if !judge.Over(m, [][]api.Shape{{empty}}, [][]api.Shape{{seen()}}) || !judge.Over(m, [][]api.Shape{{seen()}}, [][]api.Shape{{empty}}) {
		t.Error("no operands, and none, are not the same")
	}
	m = of(op(api.OpNull), op(api.OpPop), op(api.OpRet))
	if !judge.Right(m, shapesOf(empty, seen(null), empty)) {
		t.Error("no operands, and none, are not the same")
	}
}

// P10.1: neither asks for what types there may be, but for what is Sub: Null
// fits all that are references, and nothing fits what there is not.
func TestOddTypes(t *testing.T) {
	m := of(op(api.OpNull), op(api.OpPop), op(api.OpRet))
	odd := map[api.Type]bool{
		ref(77): true, ref(-1): true, {Kind: api.Arr, N: 5}: true, {Kind: api.Null, N: 3}: true,
		nothing: false, {}: false, {Kind: 77}: false, {Kind: math.MinInt, N: math.MaxInt}: false, {Kind: api.Int, N: 1}: false,
	}
	for x, want := range odd {
		wide := shapesOf(seen(), seen(x), seen())
		if judge.Right(m, wide) != want || judge.Over(m, shapesOf(seen(), seen(null), seen()), wide) != want {
			t.Errorf("Null and %v", x)
		}
		if judge.Over(m, wide, shapesOf(seen(), seen(number), seen())) {
			t.Errorf("%v is an Int", x)
		}
		// Nothing goes on from OpRet, so that anything may lie there.
		if !judge.Right(of(op(api.OpRet), op(api.OpRet)), shapesOf(seen(), seen(x))) {
			t.Errorf("%v is not right, though nothing asks for it", x)
		}
	}
	for x, want := range map[api.Type]bool{nothing: false, ref(77): false, {Kind: api.Arr, N: 5}: true, {Kind: api.Null, N: 3}: true, {Kind: api.Int, N: 1}: true} {
		if got := judge.Over(m, [][]api.Shape{{seen(x)}}, [][]api.Shape{{seen(x)}}); got != want {
			t.Errorf("is %v over itself? %t", x, got)
		}
	}
}

// P10.1, R1: Over answers of any image: which classes are above which, chapter
// 3 tells, also where a Super leads nowhere, or round.
func TestOverAny(t *testing.T) {
	one := func(x api.Type) [][]api.Shape { return [][]api.Shape{{seen(x)}} }
	round := api.Image{Classes: []api.Class{{Super: 1}, {Super: 0}, {Super: 2}, {Super: 99}, {Super: math.MinInt}, {Super: 4}}}
	for a := range 6 {
		for b := range 6 {
			want := a == b || a == 1 && b == 0 || a == 5 && b == 4
			if got := judge.Over(round, one(ref(a)), one(ref(b))); got != want {
				t.Errorf("is %d over %d? %t", b, a, got)
			}
		}
	}
	for _, c := range []int{math.MinInt, -1, 0, 6, math.MaxInt} {
		if judge.Over(api.Image{}, one(ref(c)), one(ref(c))) || !judge.Over(api.Image{}, one(null), one(ref(c))) || !judge.Over(api.Image{}, one(number), one(number)) {
			t.Errorf("%d, without classes", c)
		}
	}
	l := many(1<<18, seen(number))
	if !judge.Over(round, [][]api.Shape{l}, [][]api.Shape{l}) || judge.Over(round, [][]api.Shape{l}, [][]api.Shape{l[1:]}) || !judge.Over(round, [][]api.Shape{{seen(many(1<<18, null)...)}}, [][]api.Shape{{seen(many(1<<18, ref(3))...)}}) {
		t.Error("long ones")
	}
}

// R8: what is not sane ends, too, and answers the same again.
func TestNotSane(t *testing.T) {
	ends := []int{math.MinInt, -1, 0, 1, 2, 3, 5, 77, math.MaxInt}
	odd := types(api.Type{Kind: api.Null, N: 3}, ref(99), ref(-1), nothing, api.Type{}, api.Type{Kind: 77, N: 5})
	shapes := [][]api.Shape{
		many(4, unseen), many(4, seen()), {seen(), seen(null), seen(null, number), seen()}, {seen(), seen(number), seen(number), seen(ref(99))},
		many(4, seen(odd...)), many(3, seen(number, numbers, number)), many(4, seen(many(1000, null)...)), nil,
	}
	for k := -1; k <= 36; k++ {
		for _, a := range ends {
			for _, x := range odd {
				m := of(op(api.OpNull), op(k, a, 1), op(k, a, a), op(k, 1, a))
				m.Methods[mine].Locals[0], m.Methods[0].Args, m.Methods[1].Ret, m.Statics[0] = x, types(x), x, x
				m.Classes[0] = api.Class{Super: 3, Slots: []int{a}, Fields: types(x)}
				for _, l := range shapes {
					if judge.Right(m, shapesOf(l...)) != judge.Right(m, shapesOf(l...)) {
						t.Errorf("%v, %v: once so, once so", m, l)
					}
				}
			}
		}
	}
	if m := (api.Image{Methods: make([]api.Method, 2)}); judge.Right(m, [][]api.Shape{nil, nil}) {
		t.Error("there is no first instruction")
	}
}

// roomy is a list with spare room, in which there is something.
func roomy[T any](list []T, spare T) []T {
	return append(slices.Clone(list), spare, spare, spare)[:len(list)]
}

// roomyMaps are the same maps, with spare room, in which there is something
// that would count, if it were there.
func roomyMaps(maps [][]api.Shape) [][]api.Shape {
	all := copied(maps)
	for f, shapes := range all {
		for pc, s := range shapes {
			shapes[pc].Stack = roomy(s.Stack, number)
		}
		all[f] = roomy(shapes, seen(number))
	}
	return roomy(all, []api.Shape{seen(number)})
}

// whole is all that maps hold, spare room included.
func whole(maps [][]api.Shape) string {
	s := fmt.Sprint(maps[:cap(maps)])
	for _, shapes := range maps {
		s += fmt.Sprint(shapes[:cap(shapes)])
		for _, x := range shapes {
			s += fmt.Sprint(x.Stack[:cap(x.Stack)])
		}
	}
	return s
}

// R4: nothing that is handed in is changed, or looked at behind its end.
func TestMemory(t *testing.T) {
	throw := dice(4)
	for range 300 {
		plain := thrown(throw, 30)
		least, _, _, e := typer.Check(plain)
		if e != api.OK {
			continue
		}
		wide := copied(least)
		for k := range wide[mine] {
			for n := range wide[mine][k].Stack {
				if x := &wide[mine][k].Stack[n]; *x == null && throw(3) == 0 {
					*x = ref(throw(5))
				}
			}
		}
		m := image.Copy(plain)
		m.Methods, m.Classes = roomy(m.Methods, m.Methods[0]), roomy(m.Classes, api.Class{Super: 3})
		m.Methods[mine].Code = roomy(m.Methods[mine].Code, op(api.OpPush))
		a, b := roomyMaps(least), roomyMaps(wide)
		before := whole(a) + whole(b) + fmt.Sprint(m.Classes[:cap(m.Classes)], m.Methods[:cap(m.Methods)], m.Methods[mine].Code[:cap(m.Methods[mine].Code)])
		if !judge.Right(m, a) || judge.Right(m, b) != right(plain, wide) || judge.Over(m, a, b) != over(least, wide) || judge.Over(m, b, a) != over(wide, least) {
			t.Errorf("%v: spare room counts", plain.Methods[mine].Code)
		}
		after := whole(a) + whole(b) + fmt.Sprint(m.Classes[:cap(m.Classes)], m.Methods[:cap(m.Methods)], m.Methods[mine].Code[:cap(m.Methods[mine].Code)])
		if after != before || !image.Same(m, plain) {
			t.Errorf("%v: something is changed", plain.Methods[mine].Code)
		}
	}
}
