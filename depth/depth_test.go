package depth_test

import (
	"fmt"
	"math"
	"slices"
	"testing"

	"plimsoll/api"
	"plimsoll/depth"
	"plimsoll/sane"
	"plimsoll/typer"
)

var (
	number  = api.Type{Kind: api.Int}
	nothing = api.Type{Kind: api.Void}
)

// ints are so many types.
func ints(many int) []api.Type {
	return slices.Repeat([]api.Type{number}, many)
}

// op is an instruction by its numbers, of which the last ones may lack.
func op(list ...int) api.Instr {
	list = append(list, 0, 0)
	return api.Instr{Op: list[0], A: list[1], B: list[2]}
}

// call is a call of a method.
func call(f int) api.Instr { return op(api.OpCall, f) }

// virt is a call of a slot of a class.
func virt(c, n int) api.Instr { return op(api.OpVirt, c, n) }

// shapes are of as many instructions as there are numbers: as many operands.
func shapes(deeps ...int) []api.Shape {
	list := make([]api.Shape, len(deeps))
	for pc, n := range deeps {
		list[pc] = api.Shape{Seen: true, Stack: ints(n)}
	}
	return list
}

// calling are instructions that call some methods, in that order.
func calling(list ...int) []api.Instr {
	var all []api.Instr
	for _, f := range list {
		all = append(all, call(f))
	}
	return append(all, op(api.OpRet))
}

// one is a method for an image: whom it calls, how often it may be under way,
// and how many cells its frame has beside Link.
type one struct {
	calls []int
	often int
	cells int
}

// made is an image of some methods, and maps by which their frames are as they
// say: the cells are operands.
func made(list ...one) (m api.Image, maps [][]api.Shape) {
	for _, x := range list {
		code := calling(x.calls...)
		m.Methods = append(m.Methods, api.Method{Ret: nothing, Code: code, Depth: x.often, Phi: make([]int, len(code))})
		maps = append(maps, shapes(0, x.cells, 0))
	}
	return m, maps
}

// to are methods that are called.
func to(list ...int) []int { return list }

// told is the beginning of something: long ones would hide what is wrong.
func told(x any) string {
	text := fmt.Sprint(x)
	return text[:min(len(text), 300)]
}

func wantFrame(t *testing.T, m api.Image, maps [][]api.Shape, f, want int) {
	t.Helper()
	if got := depth.Frame(m, maps, f); got != want {
		t.Errorf("Frame(%s, %s, %d) = %d, want %d", told(m), told(maps), f, got, want)
	}
}

func wantBound(t *testing.T, m api.Image, maps [][]api.Shape, want ...int) {
	t.Helper()
	if got, e := depth.Bound(m, maps); e != api.OK || !slices.Equal(got, want) {
		t.Errorf("Bound(%s, %s) = %s %d, want %s", told(m.Methods), told(maps), told(got), e, told(want))
	}
}

// wantNone holds Bound to telling that it is not said how deep it goes.
func wantNone(t *testing.T, m api.Image, maps [][]api.Shape) {
	t.Helper()
	if got, e := depth.Bound(m, maps); e != api.ErrDepth || len(got) != 0 {
		t.Errorf("Bound(%s, %s) = %s %d, want ErrDepth", told(m.Methods), told(maps), told(got), e)
	}
}

// P13.1: Link, arguments, locals and the most operands, each by itself and all
// together.
func TestFrame(t *testing.T) {
	m := api.Image{Methods: make([]api.Method, 3)}
	for args := range api.MaxArgs + 1 {
		for locals := range api.MaxLocals - args + 1 {
			for deep := range api.MaxOps + 1 {
				m.Methods[1] = api.Method{Args: ints(args), Locals: ints(locals)}
				maps := [][]api.Shape{shapes(7), shapes(deep), shapes(8)}
				wantFrame(t, m, maps, 1, 3+args+locals+deep)
				wantFrame(t, m, maps, 0, 10)
				wantFrame(t, m, maps, 2, 11)
			}
		}
	}
}

// P13.1: the most operands may be at any instruction.
func TestFrameAtAnyInstruction(t *testing.T) {
	m := api.Image{Methods: make([]api.Method, 1)}
	for pc := range 5 {
		deeps := []int{1, 0, 2, 1, 0}
		deeps[pc] = 6
		wantFrame(t, m, [][]api.Shape{shapes(deeps...)}, 0, 9)
	}
	wantFrame(t, m, [][]api.Shape{shapes(0, 0)}, 0, 3)
	wantFrame(t, m, [][]api.Shape{shapes()}, 0, 3)
}

// P13.1: neither its calls nor how often it may be under way count for a frame.
func TestFrameAlone(t *testing.T) {
	m, maps := made(one{to(0, 1), 5, 4}, one{to(0), 0, 2})
	wantFrame(t, m, maps, 0, 7)
	wantFrame(t, m, maps, 1, 5)
}

// P13.1: 0, if there is no such method, also where there are shapes of it; a
// method without shapes has no operands.
func TestFrameNone(t *testing.T) {
	m, maps := made(one{cells: 4}, one{cells: 5})
	m.Methods[1].Args, m.Methods[1].Locals = ints(2), ints(1)
	maps = append(maps, shapes(6), shapes(7))
	for _, f := range []int{math.MinInt, -2, -1, 2, 3, 4, math.MaxInt} {
		wantFrame(t, m, maps, f, 0)
		wantFrame(t, m, nil, f, 0)
		wantFrame(t, api.Image{}, maps, f, 0)
	}
	wantFrame(t, api.Image{}, maps, 0, 0)
	wantFrame(t, m, nil, 0, 3)
	wantFrame(t, m, maps[:1], 1, 6)
	wantFrame(t, m, maps[:2], 1, 11)
}

// P13.1: of no methods.
func TestBoundOfNone(t *testing.T) {
	wantBound(t, api.Image{}, nil)
	wantBound(t, api.Image{Stack: 9}, [][]api.Shape{shapes(1)})
}

// P13.1: its Frame, where nobody is called; how often it may be under way does
// not count where it does not come back to itself.
func TestBoundAlone(t *testing.T) {
	for _, often := range []int{math.MinInt, -1, 0, 1, 5, api.MaxDepth, math.MaxInt} {
		m, maps := made(one{nil, often, 0}, one{nil, often, 4}, one{to(1), often, 2})
		m.Methods[0].Args, m.Methods[1].Locals = ints(2), ints(3)
		wantBound(t, m, maps, 5, 10, 15)
	}
}

// P13.1: the most that one takes that it calls: not the sum, not the last one,
// and no more of one that is called more than once.
func TestBoundCalls(t *testing.T) {
	small, great := one{cells: 1}, one{cells: 5}
	m, maps := made(small, great, one{to(0, 1), 0, 0}, one{to(1, 0), 0, 2}, one{to(0, 0, 0), 0, 3})
	wantBound(t, m, maps, 4, 8, 11, 13, 10)
	// One behind the other, either way.
	m, maps = made(one{to(1), 0, 1}, one{to(2), 0, 2}, one{to(3), 0, 3}, one{nil, 0, 4})
	wantBound(t, m, maps, 22, 18, 13, 7)
	m, maps = made(one{nil, 0, 4}, one{to(0), 0, 3}, one{to(1), 0, 2}, one{to(2), 0, 1})
	wantBound(t, m, maps, 7, 13, 18, 22)
	// A great frame near, or a long way of small ones.
	m, maps = made(one{to(1, 2), 0, 0}, one{nil, 0, 5}, one{to(3), 0, 0}, one{to(4), 0, 0}, one{nil, 0, 0})
	wantBound(t, m, maps, 12, 8, 9, 6, 3)
	m, maps = made(one{to(1, 2), 0, 0}, one{nil, 0, 8}, one{to(3), 0, 0}, one{to(4), 0, 0}, one{nil, 0, 0})
	wantBound(t, m, maps, 14, 11, 9, 6, 3)
	// Two ways to the same one.
	m, maps = made(one{to(1, 2), 0, 0}, one{to(3), 0, 1}, one{to(3), 0, 2}, one{nil, 0, 3})
	wantBound(t, m, maps, 14, 10, 11, 6)
}

// P13.1: one that calls itself: Depth times its Frame.
func TestBoundOfItself(t *testing.T) {
	for often := 1; often <= api.MaxDepth; often++ {
		m, maps := made(one{to(0), often, 2})
		wantBound(t, m, maps, 5*often)
		m, maps = made(one{to(1, 0, 0), often, 2}, one{nil, 3, 1})
		wantBound(t, m, maps, 5*often+4, 4)
		m, maps = made(one{to(1), 3, 1}, one{to(1), often, 2})
		wantBound(t, m, maps, 4+5*often, 5*often)
	}
}

// P13.1: the sum of Depth times Frame of all in a ring, the same for each of it.
func TestBoundOfRing(t *testing.T) {
	m, maps := made(one{to(1), 2, 0}, one{to(0), 3, 1})
	wantBound(t, m, maps, 18, 18)
	m, maps = made(one{to(1), 1, 0}, one{to(2), 1, 1}, one{to(0), 1, 2})
	wantBound(t, m, maps, 12, 12, 12)
	m, maps = made(one{to(2), 8, 3}, one{to(0), 7, 4}, one{to(1), 6, 5})
	wantBound(t, m, maps, 145, 145, 145)
	// Also where only one of them calls itself, or two rings have one in common.
	m, maps = made(one{to(1, 0), 2, 0}, one{to(0), 3, 1})
	wantBound(t, m, maps, 18, 18)
	m, maps = made(one{to(1, 2), 1, 0}, one{to(0), 2, 0}, one{to(0), 3, 0})
	wantBound(t, m, maps, 18, 18, 18)
}

// P13.1: the most that one takes that any of a ring calls, once, whichever of
// them calls it.
func TestBoundBeyondRing(t *testing.T) {
	small, great := one{cells: 1}, one{cells: 5}
	m, maps := made(one{to(1, 2), 2, 0}, one{to(0, 3), 3, 1}, small, great)
	wantBound(t, m, maps, 26, 26, 4, 8)
	m, maps = made(one{to(3, 1), 2, 0}, one{to(2, 0), 3, 1}, small, great)
	wantBound(t, m, maps, 26, 26, 4, 8)
	m, maps = made(one{to(1), 2, 0}, one{to(3, 0, 2), 3, 1}, small, great)
	wantBound(t, m, maps, 26, 26, 4, 8)
	// Ahead of it, and far from it by number.
	m, maps = made(great, one{to(3, 0), 2, 0}, small, one{to(2, 1), 3, 1})
	wantBound(t, m, maps, 8, 26, 4, 26)
}

// P13.1: rings behind rings: each one's own, and those that it comes to.
func TestBoundRings(t *testing.T) {
	m, maps := made(one{to(1), 1, 0}, one{to(0, 2), 2, 0}, one{to(3), 1, 1}, one{to(2, 4), 1, 2}, one{to(4), 4, 3})
	wantBound(t, m, maps, 42, 42, 33, 33, 24)
	m, maps = made(one{to(0), 4, 3}, one{to(2, 0), 1, 2}, one{to(1), 1, 1}, one{to(4, 2), 2, 0}, one{to(3), 1, 0})
	wantBound(t, m, maps, 24, 33, 33, 42, 42)
	// One without a ring between two.
	m, maps = made(one{to(0, 1), 2, 0}, one{to(2), 8, 0}, one{to(2), 3, 0})
	wantBound(t, m, maps, 18, 12, 9)
}

// P13.1: ErrDepth, if one in a Cyclic part has Depth 0, whichever it is, and
// whether anybody comes to it or not; not if one beyond it has.
func TestErrDepth(t *testing.T) {
	for f := range 7 {
		m, maps := made(one{to(1), 2, 0}, one{to(2), 2, 0}, one{to(0, 3), 2, 0}, one{to(4), 2, 0}, one{to(4), 2, 0}, one{to(5), 2, 0}, one{to(5, 0), 2, 0})
		wantBound(t, m, maps, 27, 27, 27, 9, 6, 6, 30)
		m.Methods[f].Depth = 0
		if f == 3 || f == 6 {
			wantBound(t, m, maps, 27, 27, 27, 9, 6, 6, 30)
		} else {
			wantNone(t, m, maps)
		}
	}
	m, maps := made(one{to(0), 0, 0})
	wantNone(t, m, maps)
	m.Methods[0].Code = calling()
	wantBound(t, m, maps, 3)
	// Shapes that there are not do not make it right.
	m.Methods[0].Code = calling(0)
	wantNone(t, m, nil)
}

// P13.1: whatever is called by a slot counts, with those of all classes below.
func TestBoundVirtual(t *testing.T) {
	m, maps := made(one{nil, 0, 1}, one{nil, 0, 5}, one{nil, 0, 8}, one{nil, 1, 0})
	m.Classes = []api.Class{{Super: -1, Slots: []int{0}}, {Super: 0, Slots: []int{1}}, {Super: -1, Slots: []int{2}}}
	m.Methods[3].Code = []api.Instr{virt(0, 0), op(api.OpRet)}
	wantBound(t, m, maps, 4, 8, 11, 11)
	m.Methods[3].Code[0] = virt(2, 0)
	wantBound(t, m, maps, 4, 8, 11, 14)
	m.Classes[1].Slots[0] = 3
	wantBound(t, m, maps, 4, 8, 11, 14)
	// A ring by a slot of a class below.
	m.Methods[3].Code[0] = virt(0, 0)
	m.Methods[3].Depth = 4
	wantBound(t, m, maps, 4, 8, 11, 16)
	m.Methods[3].Depth = 0
	wantNone(t, m, maps)
}

// applet is a sane image: 0 adds up, 1 comes back to itself by the slot of the
// class that 2 makes, 2 calls both.
func applet() api.Image {
	ref := api.Type{Kind: api.Ref}
	sum := []api.Instr{op(api.OpGet), op(api.OpGet, 1), op(api.OpGet), op(api.OpAdd), op(api.OpAdd), op(api.OpRet)}
	back := []api.Instr{op(api.OpGet, 1), op(api.OpZero, 7), op(api.OpGet), op(api.OpGet, 1), op(api.OpPush), op(api.OpSub), virt(0, 0), op(api.OpRet)}
	begin := []api.Instr{op(api.OpNew), op(api.OpGet), op(api.OpDup), op(api.OpCall, 0), op(api.OpPut, 1), op(api.OpGet, 1), op(api.OpCall, 1), op(api.OpRet)}
	return api.Image{
		Classes: []api.Class{{Super: -1, Slots: []int{1}}},
		Ints:    []int32{1},
		Methods: []api.Method{
			{Args: ints(2), Ret: number, Code: sum, Phi: make([]int, len(sum))},
			{Args: append([]api.Type{ref}, number), Ret: nothing, Code: back, Depth: 4, Phi: make([]int, len(back))},
			{Args: ints(1), Locals: ints(1), Ret: nothing, Code: begin, Phi: make([]int, len(begin))},
		},
		Entries: []int{2},
		Stack:   48,
	}
}

// P13.1: by types as chapter 9 finds them.
func TestApplet(t *testing.T) {
	m := applet()
	maps, _, _, e := typer.Check(m)
	if s := sane.Check(m); s != api.OK || e != api.OK {
		t.Fatalf("the applet is wrong: %d, %d", s, e)
	}
	// Three operands each; 2 has an object and two numbers.
	for f, want := range []int{8, 8, 8} {
		wantFrame(t, m, maps, f, want)
	}
	wantBound(t, m, maps, 8, 32, 40)
	m.Methods[0].Locals = ints(6) // more than it needs
	wantFrame(t, m, maps, 0, 14)
	wantBound(t, m, maps, 14, 32, 40)
	m.Methods[1].Depth = 1
	wantBound(t, m, maps, 14, 8, 22)
	m.Methods[1].Depth = 0
	wantNone(t, m, maps)
}

// words are the chapter's words for some methods: whether there are bounds, and
// which.
type words struct {
	list  []one
	comes [][]bool
	known map[int]int
}

// comesTo tells of each two methods whether one comes to the other one by calls:
// by way of more and more of them.
func comesTo(list []one) [][]bool {
	comes := make([][]bool, len(list))
	for f, x := range list {
		comes[f] = make([]bool, len(list))
		for _, g := range x.calls {
			comes[f][g] = true
		}
	}
	for by := range list {
		for a := range list {
			for b := range list {
				if comes[a][by] && comes[by][b] {
					comes[a][b] = true
				}
			}
		}
	}
	return comes
}

// together: are they in one part?
func (w words) together(f, g int) bool {
	return f == g || w.comes[f][g] && w.comes[g][f]
}

// bound is what a method takes.
func (w words) bound(f int) int {
	if n, ok := w.known[f]; ok {
		return n
	}
	own, most := 0, 0
	for g, x := range w.list {
		if !w.together(f, g) {
			continue
		}
		frame := 3 + x.cells
		if w.comes[f][f] {
			frame *= x.often
		}
		own += frame
		for _, h := range x.calls {
			if !w.together(f, h) {
				most = max(most, w.bound(h))
			}
		}
	}
	w.known[f] = own + most
	return own + most
}

// wantWords holds Bound to the chapter's words.
func wantWords(t *testing.T, list []one) {
	t.Helper()
	w := words{list, comesTo(list), map[int]int{}}
	m, maps := made(list...)
	var want []int
	for f, x := range list {
		if w.comes[f][f] && x.often == 0 {
			wantNone(t, m, maps)
			return
		}
		want = append(want, w.bound(f))
	}
	wantBound(t, m, maps, want...)
}

// chosen are the numbers of a number's bits.
func chosen(bits, many int) []int {
	var some []int
	for k := range many {
		if bits>>k&1 == 1 {
			some = append(some, k)
		}
	}
	return some
}

// P13.1: all that up to four methods may call, as all are said, and as one of
// them is not.
func TestAllSmall(t *testing.T) {
	for many := range 5 {
		for bits := range 1 << (many * many) {
			list := make([]one, many)
			for f := range list {
				list[f] = one{chosen(bits>>(f*many), many), 1 + (f+bits)%3, f * f}
			}
			wantWords(t, list)
			if many > 0 {
				list[bits%many].often = 0
				wantWords(t, list)
			}
			if t.Failed() {
				return
			}
		}
	}
}

// mixed are numbers below a limit, each made of the one ahead of it.
func mixed(seed uint64) func(int) int {
	return func(limit int) int {
		seed = seed*6364136223846793005 + 1442695040888963407
		return int(seed >> 33 % uint64(limit))
	}
}

// someMethods are up to many methods, with few calls or with more.
func someMethods(next func(int) int, many int) []one {
	list := make([]one, 1+next(many))
	for f := range list {
		list[f] = one{often: 1 + next(api.MaxDepth), cells: next(17)}
	}
	for range next(2*len(list) + 1) {
		f := next(len(list))
		list[f].calls = append(list[f].calls, next(len(list)))
	}
	return list
}

// P13.1: as many methods as an applet may have, and more.
func TestMixed(t *testing.T) {
	next := mixed(13)
	for round := range 4000 {
		list := someMethods(next, api.MaxMethods+round%10)
		if round%8 == 0 {
			list[next(len(list))].often = 0
		}
		wantWords(t, list)
		if t.Failed() {
			return
		}
	}
}

// under are methods that call one another, and how often each is under way.
type under struct {
	list  []one
	comes [][]bool
	now   []int
}

// longest is the most cells that calls from a method on take, if none that comes
// back to itself is under way more often than it says.
func (u under) longest(f int) int {
	if u.comes[f][f] && u.now[f] == u.list[f].often {
		return 0
	}
	u.now[f]++
	most := 0
	for _, g := range u.list[f].calls {
		most = max(most, u.longest(g))
	}
	u.now[f]--
	return 3 + u.list[f].cells + most
}

// P13.1: no calls take more, and where nobody comes back to itself, some take
// as much.
func TestNoCallsTakeMore(t *testing.T) {
	next := mixed(31)
	for range 3000 {
		list := someMethods(next, 5)
		rings := false
		u := under{list, comesTo(list), make([]int, len(list))}
		for f := range list {
			list[f].often = 1 + next(2)
			rings = rings || u.comes[f][f]
		}
		m, maps := made(list...)
		bounds, e := depth.Bound(m, maps)
		for f := range list {
			n := u.longest(f)
			if e != api.OK || n > bounds[f] || !rings && n != bounds[f] {
				t.Fatalf("calls of %s take %d from %d on, Bound is %s %d", told(list), n, f, told(bounds), e)
			}
		}
	}
}

// R1, R8: far more methods than an applet has, one behind the other, and round.
func TestLongWay(t *testing.T) {
	const many = 200000
	list := make([]one, many)
	for f := range list {
		list[f] = one{to((f + 1) % many), 1, 1}
	}
	m, maps := made(list...)
	got, e := depth.Bound(m, maps)
	if e != api.OK || len(got) != many || got[0] != 4*many || got[many-1] != 4*many {
		t.Errorf("Bound of a long ring: %s %d", told(got), e)
	}
	m.Methods[many-1].Code = nil
	m.Methods[many-2].Depth = 0
	got, e = depth.Bound(m, maps)
	if e != api.OK || len(got) != many || got[0] != 4*many || got[many-1] != 4 || got[many/2] != 2*many {
		t.Errorf("Bound of a long way: %s %d", told(got), e)
	}
	m.Methods[many-1].Code = calling(many - 2)
	wantNone(t, m, maps)
}

// R1: images that are not sane are answered, too: who is no method is not
// called, and only Depth 0 is not said.
func TestNotSane(t *testing.T) {
	ends := []int{math.MinInt, -1, 0, 1, 2, 3, math.MaxInt}
	m, maps := made(one{nil, 2, 1}, one{nil, 1, 2})
	m.Classes = []api.Class{{Super: 1, Slots: []int{-1, 1, 9}}, {Super: 0, Slots: []int{0}}, {Super: math.MaxInt, Slots: []int{math.MinInt}}}
	for _, o := range []int{math.MinInt, -1, 0, 99, math.MaxInt, api.OpCall, api.OpVirt} {
		for _, a := range ends {
			for _, b := range ends {
				m.Methods[0].Code = append(m.Methods[0].Code, op(o, a, b))
			}
		}
	}
	wantBound(t, m, maps, 13, 5)
	wantBound(t, m, nil, 9, 3)
	wantBound(t, m, append(maps, shapes(9), shapes(9)), 13, 5)
	wantFrame(t, m, maps, 0, 4)
	m, maps = made(one{to(-1, 3, math.MaxInt), 0, 0}, one{to(math.MinInt, 0), 0, 1}, one{to(2), -2, 1})
	wantBound(t, m, maps, 3, 7, -8)
	// The most of one is that one, also below 0.
	ring, its := made(one{to(1), 2, 0}, one{to(0, 2), 3, 0}, one{to(2), -2, 1})
	wantBound(t, ring, its, 7, 7, -8)
	m.Methods[2].Depth = math.MinInt
	wantBound(t, m, maps, 3, 7, 0) // as ints wrap round: four times that
	m.Methods[0].Code = nil
	m.Methods[2].Depth = 0
	wantNone(t, m, maps)
}

// roomy is a list with spare room, in which there is something.
func roomy[T any](list []T, spare T) []T {
	return append(slices.Clone(list), spare, spare, spare)[:len(list)]
}

// roomyApplet is an image and its maps, with spare room in which there is
// something that would count, if it were there.
func roomyApplet() (api.Image, [][]api.Shape) {
	m := applet()
	maps, _, _, _ := typer.Check(m)
	for f := range m.Methods {
		x := &m.Methods[f]
		x.Args, x.Locals = roomy(x.Args, number), roomy(x.Locals, number)
		x.Code = roomy(x.Code, call(2))
		for pc := range maps[f] {
			maps[f][pc].Stack = roomy(maps[f][pc].Stack, number)
		}
		maps[f] = roomy(maps[f], shapes(8)[0])
	}
	m.Classes[0].Slots = roomy(m.Classes[0].Slots, 2)
	m.Classes = roomy(m.Classes, api.Class{Super: 0, Slots: []int{2}})
	m.Methods = roomy(m.Methods, api.Method{Args: ints(4), Code: calling(3)})
	return m, roomy(maps, shapes(8))
}

// full is a list with its spare room.
func full[T any](list []T) []T { return list[:cap(list)] }

// whole is an image and its maps with the spare room of their lists.
func whole(m api.Image, maps [][]api.Shape) string {
	var all []any
	for _, c := range full(m.Classes) {
		all = append(all, c, full(c.Slots))
	}
	for _, x := range full(m.Methods) {
		all = append(all, x, full(x.Args), full(x.Locals), full(x.Code), full(x.Phi))
	}
	for _, list := range full(maps) {
		for _, s := range full(list) {
			all = append(all, s, full(s.Stack))
		}
	}
	return fmt.Sprint(all, full(m.Entries), full(m.Ints))
}

// R4: what is handed in stays as it is, spare room included, and what lies
// there does not count.
func TestKeepsArguments(t *testing.T) {
	m, maps := roomyApplet()
	before := whole(m, maps)
	for f, want := range []int{8, 8, 8, 0} {
		wantFrame(t, m, maps, f, want)
	}
	wantBound(t, m, maps, 8, 32, 40)
	m.Methods[1].Depth = 0
	wantNone(t, m, maps)
	m.Methods[1].Depth = 4
	if whole(m, maps) != before {
		t.Errorf("it is changed: %s %s", told(m), told(maps))
	}
}

// R4: an answer shares no memory with what was handed in, or with another
// answer, spare room included.
func TestAnswersApart(t *testing.T) {
	m, maps := roomyApplet()
	before := whole(m, maps)
	first, _ := depth.Bound(m, maps)
	other, _ := depth.Bound(m, maps)
	want := slices.Clone(full(other))
	for k := range full(first) {
		full(first)[k] = 77
	}
	if !slices.Equal(full(other), want) {
		t.Errorf("one answer changed with another one: %v, want %v", full(other), want)
	}
	wantBound(t, m, maps, 8, 32, 40)
	if whole(m, maps) != before {
		t.Errorf("the image changed with an answer: %s", told(m))
	}
}

// R5: the same, however often it is asked, and whatever was asked in between.
func TestAgain(t *testing.T) {
	m, maps := roomyApplet()
	other, none := made(one{to(0, 1), 3, 2}, one{nil, 0, 7})
	for range 200 {
		wantBound(t, m, maps, 8, 32, 40)
		wantBound(t, other, none, 25, 10)
		wantFrame(t, m, maps, 2, 8)
		wantFrame(t, other, none, 2, 0)
	}
}
