package calls_test

import (
	"fmt"
	"math"
	"reflect"
	"slices"
	"testing"

	"plimsoll/api"
	"plimsoll/calls"
	"plimsoll/kind"
	"plimsoll/sane"
)

var (
	number  = api.Type{Kind: api.Int}
	nothing = api.Type{Kind: api.Void}
)

func ref(n int) api.Type { return api.Type{Kind: api.Ref, N: n} }

// types is a list of them.
func types(list ...api.Type) []api.Type { return list }

// op is an instruction by its numbers, of which the last ones may lack.
func op(list ...int) api.Instr {
	list = append(list, 0, 0)
	return api.Instr{Op: list[0], A: list[1], B: list[2]}
}

// call is a call of a method.
func call(f int) api.Instr { return op(api.OpCall, f) }

// virt is a call of a slot of a class.
func virt(c, n int) api.Instr { return op(api.OpVirt, c, n) }

// code is a list of instructions, and OpRet.
func code(list ...api.Instr) []api.Instr {
	return append(slices.Clone(list), op(api.OpRet))
}

// allCalls are calls of methods, in that order.
func allCalls(list ...int) []api.Instr {
	var all []api.Instr
	for _, f := range list {
		all = append(all, call(f))
	}
	return all
}

// method is one of some code, with some arguments, which answers nothing.
func method(args []api.Type, list ...api.Instr) api.Method {
	x := api.Method{Args: args, Ret: nothing, Code: code(list...)}
	x.Phi = make([]int, len(x.Code))
	return x
}

// graph is an image without classes, whose methods call each other so.
func graph(edges ...[]int) api.Image {
	var m api.Image
	for _, list := range edges {
		m.Methods = append(m.Methods, method(nil, allCalls(list...)...))
	}
	return m
}

// user is the method of the family that has some code.
const user = 10

// family has two tops, 0 and 2, and slots that some have as their Super has
// them, others for themselves, and further ones. Method 10 has some code.
//
//	0        2
//	|-1-4    `-5
//	`-3
func family(list ...api.Instr) api.Image {
	var all []api.Method
	for _, c := range []int{4, 0, 1, 2, 3, 3, 4, 0, 4, 2} {
		all = append(all, method(types(ref(c))))
	}
	return api.Image{
		Classes: []api.Class{
			{Super: -1, Slots: []int{7, 1}},
			{Super: 0, Slots: []int{2, 1}},
			{Super: -1, Slots: []int{3}},
			{Super: 0, Slots: []int{7, 4, 5}},
			{Super: 1, Slots: []int{6, 0, 8}},
			{Super: 2, Slots: []int{9}},
		},
		Methods: append(all, method(types(number), list...), method(nil)),
	}
}

// wantSane holds an image to being one of those that the chapter speaks of.
func wantSane(t *testing.T, m api.Image) {
	t.Helper()
	if e := sane.Check(m); e != api.OK {
		t.Errorf("not sane: %d: %s", e, told(m))
	}
}

// told is the beginning of an image: long ones would hide what is wrong.
func told(m api.Image) string {
	text := fmt.Sprint(m.Classes, m.Methods)
	return text[:min(len(text), 500)]
}

func wantOf(t *testing.T, m api.Image, f int, want ...int) {
	t.Helper()
	if got := calls.Of(m, f); !slices.Equal(got, want) {
		t.Errorf("Of(%s, %d) = %v, want %v", told(m), f, got, want)
	}
}

func wantReach(t *testing.T, m api.Image, f int, want ...int) {
	t.Helper()
	if got := calls.Reach(m, f); !slices.Equal(got, want) {
		t.Errorf("Reach(%s, %d) = %v, want %v", told(m), f, got, want)
	}
}

// wantUser holds Of to an answer, for some code of the family.
func wantUser(t *testing.T, list []api.Instr, want ...int) {
	t.Helper()
	m := family(list...)
	wantSane(t, m)
	wantOf(t, m, user, want...)
}

// P11.1: OpCall's A, rising, each once, whatever the order of the calls.
func TestCall(t *testing.T) {
	wantUser(t, nil)
	for f := range 12 {
		wantUser(t, allCalls(f), f)
		wantUser(t, allCalls(f, f, f), f)
	}
	wantUser(t, allCalls(11, 0), 0, 11)
	wantUser(t, allCalls(9, 3, 9, 1, 3, 9), 1, 3, 9)
	wantUser(t, allCalls(user, 2), 2, user)
	wantUser(t, allCalls(11, 10, 9, 8, 7, 6, 5, 4, 3, 2, 1, 0), 0, 1, 2, 3, 4, 5, 6, 7, 8, 9, 10, 11)
}

// P11.1: OpVirt's slot of the class, and of each one below it, however far;
// but not of what is above it, or beside it.
func TestVirt(t *testing.T) {
	for _, x := range []struct {
		c, n int
		want []int
	}{
		{0, 0, []int{2, 6, 7}},
		{0, 1, []int{0, 1, 4}},
		{1, 0, []int{2, 6}},
		{1, 1, []int{0, 1}},
		{2, 0, []int{3, 9}},
		{3, 0, []int{7}},
		{3, 1, []int{4}},
		{3, 2, []int{5}},
		{4, 0, []int{6}},
		{4, 1, []int{0}},
		{4, 2, []int{8}},
		{5, 0, []int{9}},
	} {
		wantUser(t, []api.Instr{virt(x.c, x.n)}, x.want...)
		wantUser(t, []api.Instr{virt(x.c, x.n), op(api.OpPop), virt(x.c, x.n)}, x.want...)
	}
}

// P11.1: all calls of a method go together.
func TestBoth(t *testing.T) {
	wantUser(t, []api.Instr{virt(2, 0), virt(1, 0)}, 2, 3, 6, 9)
	wantUser(t, []api.Instr{virt(0, 1), call(1), virt(1, 1), call(11), call(0)}, 0, 1, 4, 11)
	wantUser(t, []api.Instr{call(9), virt(4, 2), call(user), virt(3, 2)}, 5, 8, 9, user)
	wantUser(t, []api.Instr{call(5), virt(0, 0)}, 2, 5, 6, 7)
	wantUser(t, []api.Instr{virt(0, 0), call(5)}, 2, 5, 6, 7)
}

// P11.1: each instruction of a method counts: the first and the last one, each
// of as many as there may be, and those that no run comes to.
func TestAllInstructions(t *testing.T) {
	for at := range api.MaxCode - 1 {
		list := slices.Repeat([]api.Instr{op(api.OpNull)}, api.MaxCode-1)
		list[at] = call(11)
		wantUser(t, list, 11)
		list[at] = virt(2, 0)
		wantUser(t, list, 3, 9)
	}
	wantUser(t, []api.Instr{call(4), op(api.OpRet), call(3), op(api.OpJump, 0), virt(1, 1)}, 0, 1, 3, 4)
	m := family()
	m.Methods[user].Code = []api.Instr{call(6)} // that it goes on behind the last one is not asked here
	m.Methods[user].Phi = []int{0}
	wantSane(t, m)
	wantOf(t, m, user, 6)
}

// P11.1: no other instruction calls, whatever numbers it has.
func TestOthers(t *testing.T) {
	m := family()
	m.Ints, m.Statics = make([]int32, 2), types(number, number)
	m.Classes[0].Fields = types(number, number)
	m.Methods[user].Locals = types(number)
	for k := api.OpPush; k <= api.OpCast; k++ {
		if k == api.OpCall || k == api.OpVirt {
			continue
		}
		i := op(k)
		switch k {
		case api.OpPush, api.OpGet, api.OpPut, api.OpJump, api.OpZero, api.OpNew, api.OpArr, api.OpStatic, api.OpSetStatic, api.OpCast:
			i.A = 1
		case api.OpField, api.OpSetField:
			i.A, i.B = 1, 1
		}
		m.Methods[user].Code = code(i)
		m.Methods[user].Phi = make([]int, 2)
		wantSane(t, m)
		wantOf(t, m, user)
		wantReach(t, m, user, user)
		m.Methods[user].Code = code(i, call(5))
		m.Methods[user].Phi = make([]int, 3)
		wantOf(t, m, user, 5)
	}
}

// P11.1: it is the method's own instructions that count, not the entries, not
// its neighbours' ones, not what those it calls call.
func TestOwn(t *testing.T) {
	m := graph([]int{2}, []int{0, 3}, []int{1}, nil)
	m.Entries = []int{3, 0}
	wantSane(t, m)
	wantOf(t, m, 0, 2)
	wantOf(t, m, 1, 0, 3)
	wantOf(t, m, 2, 1)
	wantOf(t, m, 3)
}

// P11.1: the method itself is reached, whether it is called or not.
func TestReachSelf(t *testing.T) {
	wantReach(t, graph(nil), 0, 0)
	wantReach(t, graph([]int{0}), 0, 0)
	m := graph([]int{1}, nil, []int{2, 2})
	wantSane(t, m)
	wantReach(t, m, 0, 0, 1)
	wantReach(t, m, 1, 1)
	wantReach(t, m, 2, 2)
}

// P11.1: ways of any length, rising and falling, up to as many as there may be.
func TestReachFar(t *testing.T) {
	var up, down [][]int
	for f := range api.MaxMethods {
		up, down = append(up, []int{f + 1}), append(down, []int{f - 1})
	}
	up[api.MaxMethods-1], down[0] = nil, nil
	var all []int
	for f := range api.MaxMethods {
		all = append(all, f)
	}
	rising, falling := graph(up...), graph(down...)
	wantSane(t, rising)
	wantSane(t, falling)
	for f := range api.MaxMethods {
		wantReach(t, rising, f, all[f:]...)
		wantReach(t, falling, f, all[:f+1]...)
	}
	up[api.MaxMethods-1] = []int{0}
	for f := range api.MaxMethods {
		wantReach(t, graph(up...), f, all...)
	}
}

// P11.1: rings, two ways to one, and what hangs on them.
func TestReachRings(t *testing.T) {
	m := graph([]int{7, 3}, []int{5}, []int{2, 6}, []int{4}, []int{1, 3}, nil, []int{0}, []int{1})
	wantSane(t, m)
	wantReach(t, m, 0, 0, 1, 3, 4, 5, 7)
	wantReach(t, m, 1, 1, 5)
	wantReach(t, m, 2, 0, 1, 2, 3, 4, 5, 6, 7)
	wantReach(t, m, 3, 1, 3, 4, 5)
	wantReach(t, m, 4, 1, 3, 4, 5)
	wantReach(t, m, 5, 5)
	wantReach(t, m, 6, 0, 1, 3, 4, 5, 6, 7)
	wantReach(t, m, 7, 1, 5, 7)
}

// P11.1: what those reached may call counts by the slots of all classes, too.
func TestReachVirt(t *testing.T) {
	m := family(virt(2, 0))
	set := func(f int, list ...api.Instr) { m.Methods[f] = method(m.Methods[f].Args, list...) }
	wantReach(t, m, user, 3, 9, user)
	set(9, virt(1, 0))
	wantReach(t, m, user, 2, 3, 6, 9, user)
	set(6, call(11))
	wantReach(t, m, user, 2, 3, 6, 9, user, 11)
	set(11, virt(3, 2), call(user))
	wantReach(t, m, user, 2, 3, 5, 6, 9, user, 11)
	wantReach(t, m, 11, 2, 3, 5, 6, 9, user, 11)
	wantReach(t, m, 9, 2, 3, 5, 6, 9, user, 11)
	wantReach(t, m, 2, 2)
	wantReach(t, m, 8, 8)
	wantSane(t, m)
}

// P11.1: none, if there is no such method.
func TestNoMethod(t *testing.T) {
	for _, m := range []api.Image{{}, {Methods: []api.Method{}}, graph(nil), graph([]int{0}), graph([]int{1}, []int{0}), family(virt(0, 0))} {
		many := len(m.Methods)
		for _, f := range []int{math.MinInt, math.MinInt + 1, -2, -1, many, many + 1, 99, math.MaxInt} {
			wantOf(t, m, f)
			wantReach(t, m, f)
		}
	}
}

// ofWords is Of, by the words of the chapter.
func ofWords(m api.Image, f int) []int {
	var all []int
	for g := range m.Methods {
		if slices.ContainsFunc(m.Methods[f].Code, func(i api.Instr) bool { return mayCall(m, i, g) }) {
			all = append(all, g)
		}
	}
	return all
}

// mayCall: may an instruction call a method?
func mayCall(m api.Image, i api.Instr, g int) bool {
	if i.Op == api.OpVirt {
		for c, x := range m.Classes {
			if kind.Below(m.Classes, c, i.A) && x.Slots[i.B] == g {
				return true
			}
		}
	}
	return i.Op == api.OpCall && i.A == g
}

// reachWords is Reach, by the words: all there are ways to, of any length.
func reachWords(m api.Image) [][]int {
	many := len(m.Methods)
	to := make([][]int, many)
	for f := range to {
		to[f] = make([]int, many)
		to[f][f] = 1
		for _, g := range ofWords(m, f) {
			to[f][g] = 1
		}
	}
	for k := range many {
		for f := range many {
			for g := range many {
				to[f][g] |= to[f][k] & to[k][g]
			}
		}
	}
	all := make([][]int, many)
	for f := range many {
		for g := range many {
			if to[f][g] == 1 {
				all[f] = append(all[f], g)
			}
		}
	}
	return all
}

// wantWords holds both calls to the words, for all methods of an image.
func wantWords(t *testing.T, m api.Image) {
	t.Helper()
	for f, all := range reachWords(m) {
		wantOf(t, m, f, ofWords(m, f)...)
		wantReach(t, m, f, all...)
	}
}

// P11.1: all ways in which up to four methods may call each other.
func TestAllSmallGraphs(t *testing.T) {
	for n := range 5 {
		for bits := range 1 << (n * n) {
			edges := make([][]int, n)
			for k := n*n - 1; k >= 0; k-- { // falling, so that they are not called in order
				if bits>>k&1 == 1 {
					edges[k/n] = append(edges[k/n], k%n)
				}
			}
			wantWords(t, graph(edges...))
		}
	}
}

// trees are all of so many classes, each with a Super that it may have.
func trees(n int) [][]int {
	all := [][]int{nil}
	for k := range n {
		var next [][]int
		for _, supers := range all {
			for s := -1; s < k; s++ {
				next = append(next, append(slices.Clone(supers), s))
			}
		}
		all = next
	}
	return all
}

// forest is a sane image of classes with such Supers, each with a slot of its
// own and one that some have as their Super has it; its last method has some
// code, the others call the first slot of a class that hangs on their number.
func forest(supers []int, list ...api.Instr) api.Image {
	var m api.Image
	n := len(supers)
	for c, s := range supers {
		x := api.Class{Super: s, Slots: []int{n - 1 - c, n + c}}
		if s >= 0 && c%2 == 1 {
			x.Slots[1] = m.Classes[s].Slots[1]
		}
		m.Classes = append(m.Classes, x)
	}
	for c := range n { // the first slots, of the classes from the last one on
		m.Methods = append(m.Methods, method(types(ref(n-1-c)), virt(c*3%n, c%2)))
	}
	for c := range n {
		m.Methods = append(m.Methods, method(types(ref(c)), virt(c*2%n, 0)))
	}
	m.Methods = append(m.Methods, method(nil, list...))
	return m
}

// P11.1: each slot of each class, of all trees of up to five classes.
func TestAllTrees(t *testing.T) {
	for n := 1; n <= 5; n++ {
		for _, supers := range trees(n) {
			for c := range n {
				for slot := range 2 {
					m := forest(supers, virt(c, slot))
					wantSane(t, m)
					wantWords(t, m)
				}
			}
			wantWords(t, forest(supers, virt(n-1, 0), call(0), virt(0, 1), call(2*n)))
		}
	}
}

// R1: an image that is not sane is answered, too: with methods that there are.
func TestNotSane(t *testing.T) {
	ends := []int{math.MinInt, -1, 0, 1, 2, 3, 77, math.MaxInt}
	m := api.Image{
		Classes: []api.Class{{Super: 1, Slots: []int{-1, 1, 9}}, {Super: 0, Slots: []int{0}}, {Super: 2, Slots: []int{math.MaxInt, math.MinInt}}},
		Methods: make([]api.Method, 2),
	}
	for _, o := range []int{math.MinInt, -1, 0, 99, math.MaxInt, api.OpCall, api.OpVirt} {
		for _, a := range ends {
			for _, b := range ends {
				m.Methods[0].Code = append(m.Methods[0].Code, op(o, a, b))
			}
		}
	}
	wantOf(t, m, 0, 0, 1)
	wantReach(t, m, 0, 0, 1)
	wantOf(t, m, 1) // it has no code
	wantReach(t, m, 1, 1)
	for _, i := range []api.Instr{call(-1), call(2), virt(-1, 0), virt(3, 0), virt(0, -1), virt(0, 3), virt(1, 1), virt(0, 2), virt(2, 0), virt(2, 1)} {
		m.Methods[1].Code = []api.Instr{i}
		wantOf(t, m, 1)
		wantReach(t, m, 1, 1)
	}
	for c := range 2 { // what class 0 has there is no method, what class 1 has is one
		m.Methods[1].Code = []api.Instr{virt(c, 0)}
		wantOf(t, m, 1, 0)
		wantReach(t, m, 1, 0, 1)
	}
}

// R8: far more methods than an applet has, one behind the other, and round.
func TestLongWay(t *testing.T) {
	const many = 200000
	m := api.Image{Methods: make([]api.Method, many)}
	for f := range m.Methods {
		m.Methods[f].Code = allCalls((f+1)%many, f)
	}
	all := calls.Reach(m, many/2)
	if len(all) != many || all[0] != 0 || all[many-1] != many-1 || !slices.IsSorted(all) {
		t.Errorf("Reach of a long way: %d", len(all))
	}
	m.Methods[many-1].Code = nil
	if all = calls.Reach(m, many/2); len(all) != many/2 || all[0] != many/2 {
		t.Errorf("Reach of half of it: %d", len(all))
	}
}

// roomy is a list with spare room, in which there is something.
func roomy[T any](list []T, spare T) []T {
	return append(slices.Clone(list), spare, spare, spare)[:len(list)]
}

// roomyFamily is the family with spare room, in which there is something that
// would count, if it were there.
func roomyFamily() api.Image {
	m := family(virt(1, 1), call(9), virt(2, 0))
	for c := range m.Classes {
		m.Classes[c].Slots = roomy(m.Classes[c].Slots, 11)
	}
	m.Classes = roomy(m.Classes, api.Class{Super: 1, Slots: []int{11, 11, 11}})
	for f := range m.Methods {
		m.Methods[f].Code = roomy(m.Methods[f].Code, call(11))
	}
	m.Methods = roomy(m.Methods, method(nil, allCalls(0, 1, 2)...))
	return m
}

// whole is an image with the spare room of its lists.
func whole(m api.Image) string {
	m.Classes, m.Methods = m.Classes[:cap(m.Classes)], m.Methods[:cap(m.Methods)]
	var all []any
	for _, x := range m.Classes {
		all = append(all, x, x.Slots[:cap(x.Slots)])
	}
	for _, x := range m.Methods {
		all = append(all, x, x.Code[:cap(x.Code)])
	}
	return fmt.Sprint(all)
}

// R4: what is handed in stays as it is, spare room included, and what lies
// there does not count.
func TestKeepsImage(t *testing.T) {
	m := roomyFamily()
	before := whole(m)
	wantOf(t, m, user, 0, 1, 3, 9)
	wantReach(t, m, user, 0, 1, 3, 9, user)
	for f := range user {
		wantOf(t, m, f)
		wantReach(t, m, f, f)
	}
	wantOf(t, m, 12)
	wantReach(t, m, 12)
	if whole(m) != before {
		t.Errorf("it is changed: %v", m)
	}
}

// R4: an answer shares no memory with what was handed in, or with another
// answer, spare room included.
func TestAnswersApart(t *testing.T) {
	m := roomyFamily()
	before := whole(m)
	for _, ask := range []func(api.Image, int) []int{calls.Of, calls.Reach} {
		first, other := ask(m, user), ask(m, user)
		want := slices.Clone(other)
		first = first[:cap(first)]
		for k := range first {
			first[k] = 77
		}
		if !slices.Equal(other, want) || !slices.Equal(ask(m, user), want) {
			t.Errorf("one answer changed with another one: %v, want %v", other, want)
		}
		if whole(m) != before {
			t.Errorf("the image changed with an answer: %v", m)
		}
	}
}

// R5: the same, however often it is asked, and whatever was asked in between.
func TestAgain(t *testing.T) {
	m := family(allCalls(11, 3, 7, 0, 9, 5, 1, user, 8, 2)...)
	of, reach := calls.Of(m, user), calls.Reach(m, user)
	for range 200 {
		if got := calls.Of(m, user); !reflect.DeepEqual(got, of) {
			t.Errorf("Of: %v, then %v", of, got)
		}
		calls.Of(graph([]int{1}, nil), 0)
		if got := calls.Reach(m, user); !reflect.DeepEqual(got, reach) {
			t.Errorf("Reach: %v, then %v", reach, got)
		}
		calls.Reach(graph([]int{1}, []int{2}, nil), 0)
	}
}
