package pot_test

import (
	"fmt"
	"math"
	"slices"
	"testing"

	"plimsoll/api"
	"plimsoll/image"
	"plimsoll/pot"
	"plimsoll/sane"
	"plimsoll/typer"
)

var (
	number  = api.Type{Kind: api.Int}
	nothing = api.Type{Kind: api.Void}
)

func ref(n int) api.Type { return api.Type{Kind: api.Ref, N: n} }

// types is a list of them.
func types(list ...api.Type) []api.Type { return list }

// many is a list of so many like one.
func many[T any](n int, x T) []T { return slices.Repeat([]T{x}, n) }

// op is an instruction by its numbers, of which the last ones may lack.
func op(list ...int) api.Instr {
	list = append(list, 0, 0)
	return api.Instr{Op: list[0], A: list[1], B: list[2]}
}

// code is instructions, some behind the others.
func code(parts ...[]api.Instr) []api.Instr { return slices.Concat(parts...) }

// one is a single instruction.
func one(list ...int) []api.Instr { return []api.Instr{op(list...)} }

// array makes one, and lets go of it.
func array(n int) []api.Instr { return code(one(api.OpPush), one(api.OpArr, n), one(api.OpPop)) }

// object makes one, and lets go of it.
func object(c int) []api.Instr { return code(one(api.OpNew, c), one(api.OpPop)) }

// call calls a method without arguments.
func call(f int) []api.Instr { return one(api.OpCall, f) }

// virt calls a slot of a class, of nothing, by which no cells are taken.
func virt(c, n int) []api.Instr {
	return code(one(api.OpNull), one(api.OpCast, c), one(api.OpVirt, c, n))
}

// branch goes on at the next instruction, or at another one.
func branch(to int) []api.Instr { return code(one(api.OpPush), one(api.OpZero, to)) }

// end goes back.
func end() []api.Instr { return one(api.OpRet) }

// jumps are so many to the next instruction each.
func jumps(n int) []api.Instr {
	list := many(n, op(api.OpJump))
	for pc := range list {
		list[pc].A = pc + 1
	}
	return list
}

// method is one without arguments and result.
func method(list ...[]api.Instr) api.Method {
	c := code(list...)
	return api.Method{Ret: nothing, Code: c, Phi: make([]int, len(c))}
}

// of is an image with some methods behind four others: 0 takes nothing, 1 to 3
// stand in slots of the classes, and take nothing either. The classes have 0,
// 2, 3, 3 and 8 fields; 1 and 3 are below 0, 2 is below 1; 4 is alone.
func of(list ...api.Method) api.Image {
	slot := func(c int) api.Method {
		x := method(end())
		x.Args = types(ref(c))
		return x
	}
	return api.Image{
		Classes: []api.Class{
			{Super: -1, Slots: []int{1}},
			{Super: 0, Fields: many(2, number), Slots: []int{2}},
			{Super: 1, Fields: many(1, number), Slots: []int{2, 3}},
			{Super: 0, Fields: many(3, ref(1)), Slots: []int{1}},
			{Super: -1, Fields: many(8, number)},
		},
		Ints:    []int32{1},
		Methods: append([]api.Method{method(end()), slot(0), slot(0), slot(0)}, list...),
		Stack:   7,
		Heap:    9,
	}
}

// mine is the first one of of's methods.
const mine = 4

// typed are the types of an image, which has to be sane and to have some.
func typed(t *testing.T, m api.Image) [][]api.Shape {
	t.Helper()
	maps, f, pc, e := typer.Check(m)
	if s := sane.Check(m); s != api.OK || e != api.OK {
		t.Fatalf("%v is wrong: %d, %d at %d of %d", m.Methods, s, e, pc, f)
	}
	return maps
}

// told is the beginning of something: long ones would hide what is wrong.
func told(x any) string {
	text := fmt.Sprint(x)
	return text[:min(len(text), 400)]
}

func wantCost(t *testing.T, m api.Image, i api.Instr, want int) {
	t.Helper()
	if got := pot.Cost(m, i); got != want {
		t.Errorf("Cost of %v = %d, want %d", i, got, want)
	}
}

// row is an inequality by its numbers: Most, and all Coef.
func row(most int, coef ...int) api.Ineq { return api.Ineq{Coef: coef, Most: most} }

// alike: are two inequalities one?
func alike(a, b api.Ineq) bool { return a.Most == b.Most && slices.Equal(a.Coef, b.Coef) }

func wantRules(t *testing.T, m api.Image, maps [][]api.Shape, f int, want ...api.Ineq) {
	t.Helper()
	if got := pot.Rules(m, maps, f); !slices.EqualFunc(got, want, alike) {
		t.Errorf("Rules of %d of %s = %s, want %s", f, told(m.Methods), told(got), told(want))
	}
}

// wantOwn holds Rules to those of a method that stands alone behind of's.
func wantOwn(t *testing.T, x api.Method, want ...api.Ineq) {
	t.Helper()
	m := of(x)
	wantRules(t, m, typed(t, m), mine, want...)
}

// wantTaken holds Check to taking an image.
func wantTaken(t *testing.T, m api.Image, maps [][]api.Shape) {
	t.Helper()
	if f, e := pot.Check(m, maps); f != 0 || e != api.OK {
		t.Errorf("Check(%s) = %d %d, want OK", told(m.Methods), f, e)
	}
}

// wantWrong holds Check to ErrPot of a method.
func wantWrong(t *testing.T, m api.Image, maps [][]api.Shape, f int) {
	t.Helper()
	if g, e := pot.Check(m, maps); g != f || e != api.ErrPot {
		t.Errorf("Check(%s) = %d %d, want ErrPot of %d", told(m.Methods), g, e, f)
	}
}

// wantFilled holds Fill to the Phi of some methods, and to all else staying.
func wantFilled(t *testing.T, m api.Image, phi map[int][]int) {
	t.Helper()
	maps := typed(t, m)
	got, ok := pot.Fill(m, maps)
	if !ok {
		t.Errorf("Fill(%s) has none", told(m.Methods))
		return
	}
	want := image.Copy(m)
	for f, x := range got.Methods {
		if list, named := phi[f]; named && (!slices.Equal(x.Phi, list) || x.Pot != list[0]) {
			t.Errorf("Fill(%s): %d has %d %v, want %v", told(m.Methods), f, x.Pot, x.Phi, list)
		}
		want.Methods[f].Pot, want.Methods[f].Phi = x.Pot, x.Phi
	}
	if !image.Same(got, want) {
		t.Errorf("Fill(%s) changes more: %s", told(m.Methods), told(got))
	}
	wantTaken(t, got, maps)
}

// wantNone holds Fill to having none.
func wantNone(t *testing.T, m api.Image) {
	t.Helper()
	if got, ok := pot.Fill(m, typed(t, m)); ok || !image.Same(got, api.Image{}) {
		t.Errorf("Fill(%s) = %s %v, want none", told(m.Methods), told(got), ok)
	}
}

// said are methods that say how many cells they take.
func said(pots ...int) []api.Method {
	var list []api.Method
	for _, n := range pots {
		x := method(end())
		x.Pot = n
		list = append(list, x)
	}
	return list
}

// P15.1: an object takes one more than its class has fields, with those above
// it; an array one more than its length.
func TestCostOfThings(t *testing.T) {
	m := of()
	for c, want := range []int{1, 3, 4, 4, 9} {
		wantCost(t, m, op(api.OpNew, c), want)
		wantCost(t, m, op(api.OpNew, c, 3), want)
	}
	for n := range api.MaxLen + 1 {
		wantCost(t, m, op(api.OpArr, n), n+1)
		wantCost(t, api.Image{}, op(api.OpArr, n), n+1)
	}
}

// P15.1: a call takes what the method says, whatever else it has.
func TestCostOfCall(t *testing.T) {
	m := of(said(0, 5, api.MaxPot, 1)...)
	m.Methods[mine].Code = array(200)
	m.Methods[mine].Phi = []int{9, 9, 9}
	for k, want := range []int{0, 5, api.MaxPot, 1} {
		wantCost(t, m, op(api.OpCall, mine+k), want)
		wantCost(t, m, op(api.OpCall, mine+k, 2), want)
	}
}

// P15.1: a call by a slot takes the most of all classes that are Below: not of
// those above it, beside it, or in another slot.
func TestCostOfVirt(t *testing.T) {
	m := of()
	for _, pots := range [][3]int{{1, 2, 3}, {3, 2, 1}, {2, 7, 5}, {7, 0, 2}, {0, 0, 0}, {0, api.MaxPot, 1}} {
		for k, n := range pots {
			m.Methods[1+k].Pot = n
		}
		wantCost(t, m, op(api.OpVirt, 0, 0), max(pots[0], pots[1]))
		wantCost(t, m, op(api.OpVirt, 1, 0), pots[1])
		wantCost(t, m, op(api.OpVirt, 2, 0), pots[1])
		wantCost(t, m, op(api.OpVirt, 2, 1), pots[2])
		wantCost(t, m, op(api.OpVirt, 3, 0), pots[0])
	}
}

// P15.1: 0 of all others, and of what is none, though its numbers name much.
func TestCostOfOthers(t *testing.T) {
	m := of(said(9)...)
	for f := range m.Methods {
		m.Methods[f].Pot = 9
	}
	takes := []int{api.OpNew, api.OpArr, api.OpCall, api.OpVirt}
	for o := -3; o < 300; o++ {
		if slices.Contains(takes, o) {
			continue
		}
		for _, a := range []int{-1, 0, 1, 4, 255} {
			wantCost(t, m, op(o, a, 1), 0)
		}
	}
	for _, o := range []int{math.MinInt, math.MaxInt} {
		wantCost(t, m, op(o, 1, 0), 0)
	}
}

// P15.1: the first one is at most Pot; then the way through it, each by what it
// takes; OpRet by nothing.
func TestRulesStraight(t *testing.T) {
	x := method(end())
	wantOwn(t, x, row(0, 1), row(0, -1))
	x.Pot, x.Phi = 7, []int{5} // which does not count
	wantOwn(t, x, row(7, 1), row(0, -1))
	x = method(array(5), object(1), end())
	x.Pot = api.MaxPot
	wantOwn(t, x,
		row(api.MaxPot, 1, 0, 0, 0, 0, 0),
		row(0, -1, 1, 0, 0, 0, 0), row(-6, 0, -1, 1, 0, 0, 0), row(0, 0, 0, -1, 1, 0, 0),
		row(-3, 0, 0, 0, -1, 1, 0), row(0, 0, 0, 0, 0, -1, 1), row(0, 0, 0, 0, 0, 0, -1))
}

// P15.1: OpZero goes on at the next one, then where it names; OpJump there alone.
func TestRulesBranch(t *testing.T) {
	wantOwn(t, method(branch(3), end(), end()),
		row(0, 1, 0, 0, 0), row(0, -1, 1, 0, 0), row(0, 0, -1, 1, 0), row(0, 0, -1, 0, 1), row(0, 0, 0, -1, 0), row(0, 0, 0, 0, -1))
	wantOwn(t, method(one(api.OpJump, 2), one(api.OpJump, 3), one(api.OpJump, 1), end()),
		row(0, 1, 0, 0, 0), row(0, -1, 0, 1, 0), row(0, 0, -1, 0, 1), row(0, 0, 1, -1, 0), row(0, 0, 0, 0, -1))
	// Back, to the first one.
	wantOwn(t, method(branch(0), end()),
		row(0, 1, 0, 0), row(0, -1, 1, 0), row(0, 0, -1, 1), row(0, 1, -1, 0), row(0, 0, 0, -1))
	// Twice to the same one.
	wantOwn(t, method(branch(2), end()),
		row(0, 1, 0, 0), row(0, -1, 1, 0), row(0, 0, -1, 1), row(0, 0, -1, 1), row(0, 0, 0, -1))
}

// P15.1: one that goes on at itself less itself is none of it.
func TestRulesOfItself(t *testing.T) {
	x := method(one(api.OpJump, 0))
	x.Pot = 3
	wantOwn(t, x, row(3, 1), row(0, 0))
	wantOwn(t, method(branch(3), end(), one(api.OpJump, 3)),
		row(0, 1, 0, 0, 0), row(0, -1, 1, 0, 0), row(0, 0, -1, 1, 0), row(0, 0, -1, 0, 1), row(0, 0, 0, -1, 0), row(0, 0, 0, 0, 0))
}

// P15.1: nothing of what is not Seen, but a variable for it.
func TestRulesUnseen(t *testing.T) {
	wantOwn(t, method(end(), array(9)), row(0, 1, 0, 0, 0), row(0, -1, 0, 0, 0))
	wantOwn(t, method(one(api.OpJump, 2), object(0)[:1], end()), row(0, 1, 0, 0), row(0, -1, 0, 1), row(0, 0, 0, -1))
	m := of(method(array(9), end()))
	maps := typed(t, m)
	maps[mine][1].Seen = false
	wantRules(t, m, maps, mine, row(0, 1, 0, 0, 0), row(0, -1, 1, 0, 0), row(0, 0, 0, -1, 1), row(0, 0, 0, 0, -1))
	maps[mine][0].Seen = false
	wantRules(t, m, maps, mine, row(0, 1, 0, 0, 0), row(0, 0, 0, -1, 1), row(0, 0, 0, 0, -1))
}

// P15.1: what a call takes is what its methods say.
func TestRulesCalls(t *testing.T) {
	x := method(call(mine+1), call(mine), virt(0, 0), end())
	x.Pot = 2
	m := of(x, said(6)[0])
	m.Methods[1].Pot, m.Methods[2].Pot = 3, 4
	wantRules(t, m, typed(t, m), mine,
		row(2, 1, 0, 0, 0, 0, 0),
		row(-6, -1, 1, 0, 0, 0, 0), row(-2, 0, -1, 1, 0, 0, 0), row(0, 0, 0, -1, 1, 0, 0),
		row(0, 0, 0, 0, -1, 1, 0), row(-4, 0, 0, 0, 0, -1, 1), row(0, 0, 0, 0, 0, 0, -1))
}

// P15.1: as many variables as there may be instructions.
func TestRulesMany(t *testing.T) {
	want := []api.Ineq{row(0, make([]int, api.MaxCode)...)}
	want[0].Coef[0] = 1
	for pc := range api.MaxCode {
		q := row(0, make([]int, api.MaxCode)...)
		q.Coef[pc] = -1
		if pc+1 < api.MaxCode {
			q.Coef[pc+1] = 1
		}
		want = append(want, q)
	}
	wantOwn(t, method(jumps(api.MaxCode-1), end()), want...)
}

// P15.1: none, if there is no such method, also where there are types of it.
func TestRulesNone(t *testing.T) {
	m := of(method(end()))
	maps := typed(t, m)
	maps = append(maps, maps[mine], maps[mine])
	for _, f := range []int{math.MinInt, -2, -1, mine + 1, mine + 2, mine + 3, math.MaxInt} {
		wantRules(t, m, maps, f)
		wantRules(t, m, nil, f)
		wantRules(t, api.Image{}, maps, f)
	}
	wantRules(t, api.Image{}, nil, 0)
}

// wanting is an image whose methods take some, and say it by the least numbers.
func wanting(t *testing.T) api.Image {
	t.Helper()
	m := of(
		method(array(5), object(1), end()),
		method(call(mine), branch(5), object(4), virt(0, 0), end()),
		method(end(), array(3)))
	phi := map[int][]int{
		mine:     {9, 9, 3, 3, 0, 0},
		mine + 1: {18, 9, 9, 9, 0, 0, 0, 0, 0},
		mine + 2: {0, 0, 0, 0},
	}
	for f, list := range phi {
		m.Methods[f].Pot, m.Methods[f].Phi = list[0], list
	}
	return m
}

// P15.2: the least numbers are taken; one less is not, wherever it is Seen and
// above 0; one more at a place is not, where one ahead of it has no more left.
func TestCheckEach(t *testing.T) {
	m := wanting(t)
	maps := typed(t, m)
	wantTaken(t, m, maps)
	for f := mine; f < mine+2; f++ {
		x := &m.Methods[f]
		x.Pot--
		wantWrong(t, m, maps, f)
		x.Pot++
		for pc, n := range x.Phi {
			if n > 0 {
				x.Phi[pc]--
				wantWrong(t, m, maps, f)
			}
			// All behind the first one have one ahead that has just what it needs.
			x.Phi[pc] = n + 1
			wantWrong(t, m, maps, f)
			x.Phi[pc] = n
		}
	}
	// More ahead of it is right, too, and so is all that is not Seen.
	m.Methods[mine+1].Pot++
	wantTaken(t, m, maps)
	m.Methods[mine+1].Phi[0]++
	wantTaken(t, m, maps)
	m.Methods[mine+1].Phi[1]++
	wantTaken(t, m, maps)
	for pc := 1; pc < 4; pc++ {
		m.Methods[mine+2].Phi[pc] = api.MaxPot - pc
	}
	wantTaken(t, m, maps)
	m.Methods[mine+2].Phi[0] = 1
	wantWrong(t, m, maps, mine+2)
}

// P15.2: what a method says counts for those that call it.
func TestCheckCalls(t *testing.T) {
	m := wanting(t)
	maps := typed(t, m)
	m.Methods[mine].Pot++
	wantWrong(t, m, maps, mine+1)
	m.Methods[mine].Pot--
	for f := 1; f < 3; f++ {
		m.Methods[f].Pot = 1
		wantWrong(t, m, maps, mine+1)
		m.Methods[f].Pot = 0
	}
	m.Methods[3].Pot, m.Methods[0].Pot = 1, 1
	wantTaken(t, m, maps)
}

// P15.2: OpRet needs 0 left, no number needs more than one takes, and no run
// that ends nowhere needs any.
func TestCheckEnds(t *testing.T) {
	m := of(method(one(api.OpJump, 0)), method(end()))
	maps := typed(t, m)
	for _, n := range []int{0, 1, api.MaxPot} {
		for k := range 2 {
			m.Methods[mine+k].Phi[0], m.Methods[mine+k].Pot = n, n
		}
		wantTaken(t, m, maps)
		m.Methods[mine+1].Phi[0] = -1
		wantWrong(t, m, maps, mine+1)
		m.Methods[mine+1].Phi[0] = n + 1
		wantWrong(t, m, maps, mine+1)
		m.Methods[mine].Phi[0] = n + 1
		wantWrong(t, m, maps, mine)
	}
}

// P15.2: no numbers are right where a ring takes some.
func TestCheckRing(t *testing.T) {
	m := of(method(branch(0), object(0), one(api.OpJump, 0)))
	maps := typed(t, m)
	for _, n := range []int{0, 1, 2, api.MaxPot} {
		for k := range 3 {
			m.Methods[mine].Pot = n
			m.Methods[mine].Phi = []int{n, max(n-k, 0), n, max(n-1, 0), max(n-k, 0)}
			wantWrong(t, m, maps, mine)
		}
	}
}

// P15.2: the first method that is wrong.
func TestCheckFirst(t *testing.T) {
	m := of(many(8, said(0)[0])...)
	maps := typed(t, m)
	wantTaken(t, m, maps)
	for a := range m.Methods {
		for b := range m.Methods {
			n := image.Copy(m)
			n.Methods[a].Phi[0], n.Methods[b].Phi[0] = 2, 1
			wantWrong(t, n, maps, min(a, b))
		}
	}
	wantTaken(t, api.Image{}, nil)
	wantTaken(t, api.Image{Heap: 3}, maps)
}

// P15.2: a method of which a rule has an error is wrong: of too few Phi, of too
// many, or of one that is too great.
func TestCheckError(t *testing.T) {
	m := wanting(t)
	maps := typed(t, m)
	for f := range m.Methods {
		right := m.Methods[f].Phi
		for _, list := range [][]int{nil, right[:len(right)-1], append(slices.Clone(right), 0), make([]int, len(right)+9)} {
			m.Methods[f].Phi = list
			wantWrong(t, m, maps, f)
		}
		for pc := range right {
			for _, n := range []int{1 << 62, math.MaxInt, -1 << 62, math.MinInt} {
				list := slices.Clone(right)
				list[pc] = n
				m.Methods[f].Phi = list
				wantWrong(t, m, maps, f)
			}
		}
		m.Methods[f].Phi = right
	}
	wantTaken(t, m, maps)
}

// P15.2: the least Phi, and Pot the first one.
func TestFillStraight(t *testing.T) {
	wantFilled(t, of(), map[int][]int{0: {0}, 1: {0}, 2: {0}, 3: {0}})
	wantFilled(t, of(method(array(5), object(1), end())), map[int][]int{mine: {9, 9, 3, 3, 0, 0}})
	wantFilled(t, of(method(object(1), array(5), end())), map[int][]int{mine: {9, 6, 6, 6, 0, 0}})
	wantFilled(t, of(method(one(api.OpJump, 0))), map[int][]int{mine: {0}})
	// All is made anew, whatever was said.
	m := wanting(t)
	want := map[int][]int{mine + 2: {0, 0, 0, 0}}
	for f := mine; f < mine+2; f++ {
		want[f] = slices.Clone(m.Methods[f].Phi)
	}
	for _, n := range []int{0, 1, api.MaxPot} {
		for f := range m.Methods {
			m.Methods[f].Pot, m.Methods[f].Phi = n, many(len(m.Methods[f].Code), n)
		}
		wantFilled(t, m, want)
	}
}

// P15.2: the most of all ways, not the sum; what is not Seen is none.
func TestFillBranch(t *testing.T) {
	both := func(a, b []api.Instr) api.Method {
		return method(branch(3+len(a)), a, one(api.OpJump, 3+len(a)+len(b)), b, object(0), end())
	}
	wantFilled(t, of(both(object(1), array(1))), map[int][]int{mine: {4, 4, 4, 1, 1, 3, 3, 1, 1, 0, 0}})
	wantFilled(t, of(both(array(1), object(1))), map[int][]int{mine: {4, 4, 3, 3, 1, 1, 4, 1, 1, 0, 0}})
	wantFilled(t, of(method(end(), array(255), object(4), one(api.OpJump, 1))), map[int][]int{mine: make([]int, 7)})
	// An end ahead of it takes none of it.
	wantFilled(t, of(method(branch(3), end(), object(2), one(api.OpJump, 2))), map[int][]int{mine: {4, 4, 0, 4, 0, 0}})
}

// P15.2: none, if a ring of instructions takes some, however it is gone; else
// it is as if it was gone once.
func TestFillRing(t *testing.T) {
	wantFilled(t, of(method(object(1), branch(2), object(0), end())), map[int][]int{mine: {4, 1, 1, 1, 1, 0, 0}})
	wantNone(t, of(method(object(1), branch(0), object(0), end())))
	wantNone(t, of(method(object(0), one(api.OpJump, 0))))
	wantNone(t, of(method(array(0), one(api.OpJump, 0))))
	wantNone(t, of(method(object(0), branch(5), one(api.OpJump, 0), end())))
	// A ring that nobody comes to.
	wantFilled(t, of(method(end(), object(0), one(api.OpJump, 1))), map[int][]int{mine: make([]int, 4)})
	// One in which a call takes some, or none.
	wantNone(t, of(method(call(mine+1), one(api.OpJump, 0)), method(object(0), end())))
	wantFilled(t, of(method(call(mine+1), one(api.OpJump, 0)), method(end(), object(0))), map[int][]int{mine: {0, 0}})
	// As long as may be, forwards and backwards.
	forth, back := jumps(api.MaxCode-3), jumps(api.MaxCode-3)
	for pc := range back[1:] {
		back[pc+1].A = pc
	}
	back[0].A, back[1].A = api.MaxCode-4, api.MaxCode-3
	for _, list := range [][]api.Instr{forth, back} {
		wantFilled(t, of(method(list, object(3), end())), map[int][]int{mine: append(many(api.MaxCode-2, 4), 0, 0)})
		wantNone(t, of(method(list, object(3), one(api.OpJump, 0))))
	}
}

// P15.2: calls of methods ahead of it and behind it.
func TestFillCalls(t *testing.T) {
	m := of(
		method(call(mine+1), call(mine+1), end()),
		method(object(0), call(mine+2), end()),
		method(array(2), end()),
		method(branch(4), call(mine), end(), call(mine+2), end()))
	wantFilled(t, m, map[int][]int{
		mine:     {8, 4, 0},
		mine + 1: {4, 3, 3, 0},
		mine + 2: {3, 3, 0, 0},
		mine + 3: {8, 8, 8, 0, 3, 0},
	})
	m.Methods[1].Code, m.Methods[1].Phi = code(object(1), end()), []int{7, 7, 7}
	m.Methods[2].Code, m.Methods[2].Phi = code(array(4), end()), []int{7, 7, 7, 7}
	m.Methods[mine] = method(virt(0, 0), end())
	m.Methods[mine+1] = method(one(api.OpNew, 3), one(api.OpVirt, 3, 0), virt(1, 0), end())
	wantFilled(t, m, map[int][]int{
		1:        {3, 0, 0},
		2:        {5, 5, 0, 0},
		mine:     {5, 5, 5, 0},
		mine + 1: {12, 8, 5, 5, 5, 0},
		mine + 3: {5, 5, 5, 0, 3, 0},
	})
}

// P15.2: those in Cyclic parts have Pot 0, whatever they said, or there are
// none; also where it is a call that is not Seen by which they are.
func TestFillCyclic(t *testing.T) {
	for _, n := range []int{0, 1, 50} {
		self := method(branch(3), call(mine), end())
		self.Pot, self.Depth, self.Phi = n, 3, many(4, n)
		wantFilled(t, of(self), map[int][]int{mine: {0, 0, 0, 0}})
		wantFilled(t, of(method(object(1), call(mine+1), end()), method(call(mine+1), end())), map[int][]int{mine: {3, 0, 0, 0}, mine + 1: {0, 0}})
		taking := method(object(0), call(mine), end())
		taking.Pot, taking.Phi = n+1, []int{n + 1, n, n, 0}
		wantNone(t, of(taking))
		hidden := method(object(0), end(), call(mine))
		hidden.Pot, hidden.Phi = n+1, []int{n + 1, n, n, 0}
		wantNone(t, of(hidden))
	}
	two := of(method(call(mine+1), end()), method(call(mine), call(0), end()))
	wantFilled(t, two, map[int][]int{mine: {0, 0}, mine + 1: {0, 0, 0}})
	// Either takes some, by itself or by what it calls beyond the part.
	two.Methods[0] = method(object(0), end())
	wantNone(t, two)
	wantNone(t, of(method(call(mine+1), end()), method(call(mine), object(0), end())))
	wantNone(t, of(method(call(mine+1), object(0), end()), method(call(mine), end())))
	// A ring by a slot of a class below.
	slot := of(method(virt(0, 0), end()))
	slot.Methods[2].Code, slot.Methods[2].Phi = code(call(mine), end()), make([]int, 2)
	wantFilled(t, slot, map[int][]int{2: {0, 0}, mine: {0, 0, 0, 0}})
	slot.Methods[2].Code, slot.Methods[2].Phi = code(call(mine), object(0), end()), make([]int, 4)
	wantNone(t, slot)
	slot.Classes[1].Slots[0], slot.Classes[2].Slots[0] = 1, 1
	wantFilled(t, slot, map[int][]int{1: {0}, 2: {1, 1, 0, 0}, mine: {0, 0, 0, 0}})
}

// P15.2: false, if one is above MaxPot; not if it is MaxPot.
func TestFillMaxPot(t *testing.T) {
	arrays := slices.Repeat(array(255), 16)
	want := []int{}
	for k := range 16 {
		n := api.MaxPot - 256*k
		want = append(want, n, n, n-256)
	}
	want = append(want, 0)
	wantFilled(t, of(method(arrays, end())), map[int][]int{mine: want})
	wantNone(t, of(method(arrays, object(0), end())))
	wantNone(t, of(method(object(0), arrays, end())))
	// One that takes too many itself, and one that calls it, either way round.
	wantNone(t, of(method(call(mine+1), end()), method(arrays, object(0), end())))
	wantNone(t, of(method(arrays, object(0), end()), method(call(mine), end())))
	wantNone(t, of(method(call(mine+1), object(0), end()), method(arrays, end())))
	wantFilled(t, of(method(call(mine+1), end()), method(arrays, end())), map[int][]int{mine: {api.MaxPot, 0}, mine + 1: want})
	// In a ring of calls, and in one of instructions that nobody needs more of.
	wantNone(t, of(method(arrays, object(0), call(mine), end())))
	wantFilled(t, of(method(arrays, end(), object(0))), map[int][]int{mine: append(slices.Clone(want), 0, 0)})
	// By more and more calls, far above all ints.
	var chain []api.Method
	for k := range api.MaxMethods - mine - 1 {
		chain = append(chain, method(many(api.MaxCode-1, op(api.OpCall, mine+k+1)), end()))
	}
	wantNone(t, of(append(chain, method(arrays, end()))...))
	wantFilled(t, of(append(chain, method(end(), arrays))...), map[int][]int{mine: make([]int, api.MaxCode), mine + len(chain): make([]int, 49)})
}

// words are the chapter's words for an image, by ways that are gone.
type words struct {
	m     api.Image
	maps  [][]api.Shape
	comes [][]bool // by calls, from each method to each
	known map[int][]int
}

// callees are those that an instruction may call, class by class.
func callees(m api.Image, i api.Instr) []int {
	if i.Op == api.OpCall {
		return []int{i.A}
	}
	var list []int
	for c := range m.Classes {
		up := c
		for up > i.A {
			up = m.Classes[up].Super
		}
		if i.Op == api.OpVirt && up == i.A {
			list = append(list, m.Classes[c].Slots[i.B])
		}
	}
	return list
}

// closed makes of ways of one step all that come from one to another.
func closed(comes [][]bool) {
	for by := range comes {
		for a := range comes {
			for b := range comes {
				comes[a][b] = comes[a][b] || comes[a][by] && comes[by][b]
			}
		}
	}
}

// square is a table of so many rows and columns.
func square(n int) [][]bool {
	list := make([][]bool, n)
	for k := range list {
		list[k] = make([]bool, n)
	}
	return list
}

// wordsOf are those for an image.
func wordsOf(m api.Image, maps [][]api.Shape) words {
	w := words{m, maps, square(len(m.Methods)), map[int][]int{}}
	for f, x := range m.Methods {
		for _, i := range x.Code {
			for _, g := range callees(m, i) {
				w.comes[f][g] = true
			}
		}
	}
	closed(w.comes)
	return w
}

// next is where an instruction goes on.
func next(i api.Instr, pc int) []int {
	switch i.Op {
	case api.OpRet:
		return nil
	case api.OpJump:
		return []int{i.A}
	case api.OpZero:
		return []int{pc + 1, i.A}
	}
	return []int{pc + 1}
}

// takes is what an instruction takes, if each method has some Pot.
func takes(m api.Image, i api.Instr, pots func(f int) int) int {
	n := 0
	switch i.Op {
	case api.OpArr:
		n = 1 + i.A
	case api.OpNew:
		for c := i.A; c >= 0; c = m.Classes[c].Super {
			n += len(m.Classes[c].Fields)
		}
		n++
	case api.OpCall, api.OpVirt:
		for _, g := range callees(m, i) {
			n = max(n, pots(g))
		}
	}
	return n
}

// endless is what there is no number for.
const endless = math.MaxInt / 1000

// phi is the most that ways from each instruction of a method on take: of so
// many steps as there are instructions, or, where one that takes some comes
// back to itself, endlessly many.
func (w words) phi(f int) []int {
	if list, ok := w.known[f]; ok {
		return list
	}
	c := w.m.Methods[f].Code
	comes, costs := square(len(c)), make([]int, len(c))
	for pc, s := range w.maps[f] {
		if s.Seen {
			costs[pc] = takes(w.m, c[pc], w.pot)
			for _, to := range next(c[pc], pc) {
				comes[pc][to] = true
			}
		}
	}
	most := make([]int, len(c))
	for range c {
		longer := slices.Clone(costs)
		for pc := range c {
			for to := range c {
				if comes[pc][to] {
					longer[pc] = min(max(longer[pc], costs[pc]+most[to]), endless)
				}
			}
		}
		most = longer
	}
	closed(comes)
	for pc := range c {
		for to := range c {
			if costs[to] > 0 && comes[to][to] && (pc == to || comes[pc][to]) {
				most[pc] = endless
			}
		}
	}
	w.known[f] = most
	return most
}

// pot is what a method takes: 0 of what comes back to itself.
func (w words) pot(f int) int {
	if w.comes[f][f] {
		return 0
	}
	return w.phi(f)[0]
}

// filled are the numbers of all methods, if there are any.
func (w words) filled() (api.Image, bool) {
	m, ok := image.Copy(w.m), true
	for f := range m.Methods {
		phi := w.phi(f)
		m.Methods[f].Phi, m.Methods[f].Pot = phi, w.pot(f)
		ok = ok && phi[0] == w.pot(f) && slices.Max(phi) <= api.MaxPot
	}
	return m, ok
}

// right is the first method that says too little, or has not as many Phi as
// instructions; as many as there are methods, if none does.
func (w words) right() int {
	pots := func(f int) int { return w.m.Methods[f].Pot }
	for f, x := range w.m.Methods {
		if len(x.Phi) != len(x.Code) || x.Phi[0] > x.Pot {
			return f
		}
		for pc, i := range x.Code {
			for _, to := range next(i, pc) {
				if w.maps[f][pc].Seen && x.Phi[pc] < x.Phi[to]+takes(w.m, i, pots) {
					return f
				}
			}
		}
	}
	return len(w.m.Methods)
}

// wantCheckWords holds Check to the chapter's words.
func wantCheckWords(t *testing.T, w words) bool {
	t.Helper()
	f := w.right()
	if f == len(w.m.Methods) {
		wantTaken(t, w.m, w.maps)
		return true
	}
	wantWrong(t, w.m, w.maps, f)
	return false
}

// wantFillWords holds Fill to the chapter's words.
func wantFillWords(t *testing.T, w words) (api.Image, bool) {
	t.Helper()
	got, ok := pot.Fill(w.m, w.maps)
	want, can := w.filled()
	if !can {
		want = api.Image{}
	}
	if ok != can || !image.Same(got, want) {
		t.Errorf("Fill(%s) = %v %s, want %v %s", told(w.m.Methods[mine:]), ok, told(got), can, told(want))
	}
	return got, ok
}

// each goes through all lists of so many out of some.
func each[T any](n int, of []T, do func(list []T)) {
	total := 1
	for range n {
		total *= len(of)
	}
	for k := range total {
		list := make([]T, n)
		for at := range list {
			list[at] = of[k%len(of)]
			k /= len(of)
		}
		do(list)
	}
}

// P15.2: of all code of up to three instructions out of some: Fill's is what
// Check takes, and no lower one is, whatever else it takes.
func TestLeast(t *testing.T) {
	small := []int{0, 1, 2, 3}
	for n := 1; n < 4; n++ {
		some := []api.Instr{op(api.OpRet), op(api.OpPush), op(api.OpNew), op(api.OpArr), op(api.OpPop), op(api.OpCall, mine+1)}
		for to := range n {
			some = append(some, op(api.OpJump, to), op(api.OpZero, to))
		}
		each(n, some, func(list []api.Instr) {
			m := of(method(slices.Clone(list)), method(one(api.OpJump, 1), end()))
			maps, _, _, e := typer.Check(m)
			if e != api.OK || t.Failed() {
				return
			}
			least, ok := wantFillWords(t, wordsOf(m, maps))
			found := false
			each(n, small, func(phi []int) {
				x := &m.Methods[mine]
				x.Phi, x.Pot = phi, phi[0]
				if !wantCheckWords(t, wordsOf(m, maps)) {
					return
				}
				found = true
				for pc, k := range phi {
					if !ok || k < least.Methods[mine].Phi[pc] {
						t.Errorf("of %v Check takes %v, Fill has %v %v", list, phi, ok, told(least.Methods))
					}
				}
			})
			if ok != found {
				t.Errorf("of %v: Fill has one: %v; Check takes some: %v", list, ok, found)
			}
		})
	}
}

// dice throws numbers below a limit, each made of the one ahead of it.
func dice(seed uint64) func(int) int {
	return func(limit int) int {
		seed = seed*6364136223846793005 + 1442695040888963407
		return int(seed >> 33 % uint64(limit))
	}
}

// thrown is code of parts, each of which leaves nothing behind, and branches
// between them; the calls are mostly of those with a higher number.
func thrown(throw func(int) int, f, methods, parts int) []api.Instr {
	var list []api.Instr
	starts := []int{0}
	for range parts {
		var part []api.Instr
		g := 0
		if f+1 < methods {
			g = f + 1 + throw(methods-f-1)
		}
		if throw(20) == 0 {
			g = []int{0, mine + throw(methods-mine)}[throw(2)]
		}
		switch throw(9) {
		case 0, 1:
			part = object(throw(5))
		case 2:
			part = array(throw(api.MaxLen + 1))
		case 3, 4:
			part = call(g)
		case 5:
			part = virt(throw(4), 0)
		case 6:
			part = branch(0)
		case 7:
			part = one(api.OpJump)
		case 8:
			part = [][]api.Instr{end(), virt(2, 1)}[throw(2)]
		}
		list = append(list, part...)
		starts = append(starts, len(list))
	}
	for pc, i := range list {
		if i.Op == api.OpJump || i.Op == api.OpZero {
			k := throw(len(starts))
			for throw(8) > 0 && starts[k] <= pc { // mostly ahead: a ring may take some
				k = throw(len(starts))
			}
			list[pc].A = starts[k]
		}
	}
	return append(list, op(api.OpRet))
}

// applet is a thrown one, and its types.
func applet(t *testing.T, throw func(int) int) (api.Image, [][]api.Shape) {
	t.Helper()
	m := of(make([]api.Method, 1+throw(api.MaxMethods-mine))...)
	for f := 1; f < len(m.Methods); f++ {
		if f < mine && throw(2) == 0 {
			continue
		}
		x := &m.Methods[f]
		*x = api.Method{Args: x.Args, Ret: nothing, Code: thrown(throw, max(f, mine-1), len(m.Methods), throw(12)), Pot: throw(9)}
		x.Phi = many(len(x.Code), throw(9))
	}
	return m, typed(t, m)
}

// P15.1, P15.2: applets of many methods, and numbers that were right changed a
// little, against the chapter's words.
func TestMixed(t *testing.T) {
	throw := dice(15)
	some, none, wrong := 0, 0, 0
	for range 3000 {
		m, maps := applet(t, throw)
		got, ok := wantFillWords(t, wordsOf(m, maps))
		if !ok {
			none++
			wantCheckWords(t, wordsOf(m, maps))
			continue
		}
		some++
		w := wordsOf(got, maps)
		if !wantCheckWords(t, w) {
			t.Errorf("Fill(%s) is not right: %s", told(m.Methods), told(got))
		}
		for range 20 {
			w.m = image.Copy(got)
			x := &w.m.Methods[throw(len(got.Methods))]
			pc := throw(len(x.Phi))
			x.Phi[pc] = max(x.Phi[pc]+throw(3)-1, 0)
			x.Pot = max(x.Pot+throw(3)-1, 0)
			if !wantCheckWords(t, w) {
				wrong++
			}
		}
		if t.Failed() {
			return
		}
	}
	if some < 500 || none < 500 || wrong < 5000 {
		t.Errorf("%d had some, %d none; %d were wrong", some, none, wrong)
	}
}

// run goes through a method by thrown ways, of at most so many steps in all, and
// tells what it takes, all that it calls among it.
func run(throw func(int) int, m api.Image, f int, steps *int) int {
	n := 0
	list := m.Methods[f].Code
	for pc := 0; *steps > 0; {
		*steps--
		i := list[pc]
		if g := callees(m, i); len(g) > 0 {
			n += run(throw, m, g[throw(len(g))], steps)
		} else {
			n += takes(m, i, nil)
		}
		on := next(i, pc)
		if len(on) == 0 {
			break
		}
		pc = on[throw(len(on))]
	}
	return n
}

// P15.2: what is said is never less than what a run takes, however it goes, and
// mostly some run takes just that.
func TestRuns(t *testing.T) {
	throw := dice(51)
	just := 0
	for range 1500 {
		m, maps := applet(t, throw)
		got, ok := pot.Fill(m, maps)
		if !ok {
			continue
		}
		for f, x := range got.Methods {
			most := 0
			for range 40 {
				steps := 300
				most = max(most, run(throw, m, f, &steps))
			}
			if most > x.Pot {
				t.Fatalf("a run of %d of %s takes %d, it says %d", f, told(m.Methods), most, x.Pot)
			}
			if most == x.Pot && most > 0 {
				just++
			}
		}
	}
	if just < 1000 {
		t.Errorf("%d runs took just that", just)
	}
}

// R1: images that are not sane, and any maps, are answered, too: what is not
// there takes nothing, and is no variable.
func TestNotSane(t *testing.T) {
	ends := []int{math.MinInt, -1, 0, 1, 2, 5, 64, math.MaxInt}
	m := of(said(3, 4)...)
	for _, n := range []int{math.MinInt, -5, -1, mine + 2, mine + 3, math.MaxInt} {
		wantCost(t, m, op(api.OpCall, n), 0)
		wantCost(t, m, op(api.OpVirt, n, 0), 0)
		wantCost(t, m, op(api.OpVirt, 0, n), 0)
		wantCost(t, m, op(api.OpNew, n), 1)
	}
	for _, o := range []int{math.MinInt, 0, api.OpPush, api.OpGet, api.OpJump, api.OpZero, api.OpNew, api.OpArr, api.OpCall, api.OpVirt, api.OpRet, 99} {
		for _, a := range ends {
			for _, b := range ends {
				m.Methods[mine].Code = append(m.Methods[mine].Code, op(o, a, b))
			}
		}
	}
	m.Methods[mine].Phi = make([]int, len(m.Methods[mine].Code))
	m.Classes = append(m.Classes, api.Class{Super: 9, Slots: []int{-1, 99}}, api.Class{Super: 5, Slots: []int{mine}})
	all := make([][]api.Shape, 9)
	for f := range all {
		all[f] = many(900, api.Shape{Seen: true, Stack: types(number, number)})
	}
	for _, maps := range [][][]api.Shape{nil, all, all[:2], {nil, {{}}, nil, nil, all[0]}} {
		for f := range m.Methods {
			pot.Rules(m, maps, f)
		}
		pot.Check(m, maps)
		pot.Fill(m, maps)
	}
	m = of(api.Method{Pot: 2}, api.Method{Phi: []int{7}})
	wantRules(t, m, all, mine, row(2))
	wantWrong(t, m, all, mine+1)
	m.Methods[mine+1].Phi = nil
	wantTaken(t, m, all)
	if x, ok := pot.Fill(m, nil); !ok || len(x.Methods) != mine+2 || x.Methods[mine].Pot != 0 {
		t.Errorf("Fill without code: %v %v", x, ok)
	}
}

// roomy is a list with spare room, in which there is something.
func roomy[T any](list []T, spare T) []T {
	return append(slices.Clone(list), spare, spare, spare)[:len(list)]
}

// handed is an image and its maps, with spare room in which there is something
// that would count, if it were there.
func handed(t *testing.T) (api.Image, [][]api.Shape) {
	t.Helper()
	m := wanting(t)
	maps := typed(t, m)
	for f := range m.Methods {
		x := &m.Methods[f]
		x.Args, x.Locals = roomy(x.Args, number), roomy(x.Locals, number)
		x.Code, x.Phi = roomy(x.Code, op(api.OpArr, 9)), roomy(x.Phi, 9)
		for pc := range maps[f] {
			maps[f][pc].Stack = roomy(maps[f][pc].Stack, number)
		}
		maps[f] = roomy(maps[f], api.Shape{Seen: true})
	}
	for c := range m.Classes {
		x := &m.Classes[c]
		x.Fields, x.Slots = roomy(x.Fields, number), roomy(x.Slots, mine)
	}
	m.Classes = roomy(m.Classes, api.Class{Super: 0, Slots: []int{mine}})
	m.Methods = roomy(m.Methods, said(9)[0])
	m.Ints, m.Statics, m.Entries = roomy(m.Ints, 7), roomy(m.Statics, number), roomy(m.Entries, 1)
	return m, roomy(maps, []api.Shape{{Seen: true}})
}

// full is a list with its spare room.
func full[T any](list []T) []T { return list[:cap(list)] }

// whole is an image and maps with the spare room of their lists.
func whole(m api.Image, maps [][]api.Shape) string {
	all := []any{full(m.Ints), full(m.Statics), full(m.Entries), m.Stack, m.Heap}
	for _, c := range full(m.Classes) {
		all = append(all, c, full(c.Fields), full(c.Slots))
	}
	for _, x := range full(m.Methods) {
		all = append(all, x, full(x.Args), full(x.Locals), full(x.Code), full(x.Phi))
	}
	for _, list := range full(maps) {
		for _, s := range full(list) {
			all = append(all, s, full(s.Stack))
		}
	}
	return fmt.Sprint(all)
}

// wantHanded holds all calls to what they answer of what is handed in.
func wantHanded(t *testing.T, m api.Image, maps [][]api.Shape) {
	t.Helper()
	wantCost(t, m, op(api.OpVirt, 0, 0), 0)
	wantCost(t, m, op(api.OpNew, 2), 4)
	wantCost(t, m, op(api.OpNew, len(m.Classes)), 1)
	wantCost(t, m, op(api.OpCall, len(m.Methods)), 0)
	wantRules(t, m, maps, mine+2, row(0, 1, 0, 0, 0), row(0, -1, 0, 0, 0))
	wantRules(t, m, maps, len(m.Methods))
	wantTaken(t, m, maps)
	got, ok := pot.Fill(m, maps)
	if !ok || !image.Same(got, m) {
		t.Errorf("Fill(%s) = %s %v, want the same", told(m), told(got), ok)
	}
}

// R4: what is handed in stays as it is, spare room included, and what lies
// there does not count.
func TestKeepsArguments(t *testing.T) {
	m, maps := handed(t)
	before := whole(m, maps)
	wantHanded(t, m, maps)
	for f := range m.Methods {
		pot.Rules(m, maps, f)
	}
	if whole(m, maps) != before {
		t.Errorf("it is changed: %s %s", told(m), told(maps))
	}
	m.Methods[mine].Phi[0] = 99
	before = whole(m, maps)
	wantWrong(t, m, maps, mine)
	pot.Fill(m, maps)
	if whole(m, maps) != before {
		t.Errorf("it is changed: %s %s", told(m), told(maps))
	}
}

// fillUp writes over all of an image, spare room included.
func fillUp(m api.Image) {
	spoil := func(list []int) {
		for k := range full(list) {
			full(list)[k] = 77
		}
	}
	name := func(list []api.Type) {
		for k := range full(list) {
			full(list)[k] = ref(77)
		}
	}
	for _, x := range m.Methods {
		spoil(x.Phi)
		name(x.Args)
		name(x.Locals)
		for k := range full(x.Code) {
			full(x.Code)[k] = op(77, 77, 77)
		}
	}
	for _, c := range m.Classes {
		spoil(c.Slots)
		name(c.Fields)
	}
	for k := range full(m.Methods) {
		full(m.Methods)[k] = api.Method{Pot: 77}
	}
	for k := range full(m.Classes) {
		full(m.Classes)[k] = api.Class{Super: 77}
	}
	for k := range full(m.Ints) {
		full(m.Ints)[k] = 77
	}
	name(m.Statics)
	spoil(m.Entries)
}

// R4: an answer shares no memory with what was handed in, or with another
// answer, spare room included, nor do lists of one.
func TestAnswersApart(t *testing.T) {
	m, maps := handed(t)
	before := whole(m, maps)
	first, _ := pot.Fill(m, maps)
	other, _ := pot.Fill(m, maps)
	rules, again := pot.Rules(m, maps, mine), pot.Rules(m, maps, mine)
	want := fmt.Sprint(again)
	fillUp(first)
	for k := range full(rules) {
		q := &full(rules)[k]
		for v := range full(q.Coef) {
			full(q.Coef)[v] = 70 + k
		}
		q.Most = 77
	}
	for k, q := range rules {
		if slices.ContainsFunc(q.Coef, func(n int) bool { return n != 70+k }) {
			t.Errorf("two rules share memory: %v", rules)
		}
	}
	if whole(m, maps) != before || !image.Same(other, m) || fmt.Sprint(again) != want {
		t.Errorf("it is changed with an answer: %s %s %s", told(m), told(other), told(again))
	}
	fillUp(m)
	if m, _ = handed(t); !image.Same(other, m) || fmt.Sprint(again) != want {
		t.Errorf("an answer changed with what was handed in: %s %s", told(other), told(again))
	}
}

// R5: the same, however often it is asked, and whatever was asked in between.
func TestAgain(t *testing.T) {
	m, maps := handed(t)
	ring := of(method(object(0), one(api.OpJump, 0)))
	for range 100 {
		wantHanded(t, m, maps)
		wantNone(t, ring)
		wantWrong(t, ring, typed(t, ring), mine)
	}
}
