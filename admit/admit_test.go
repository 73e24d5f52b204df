package admit_test

import (
	"fmt"
	"math"
	"slices"
	"testing"

	"plimsoll/admit"
	"plimsoll/api"
	"plimsoll/depth"
	"plimsoll/image"
	"plimsoll/pot"
	"plimsoll/sane"
	"plimsoll/typer"
)

var (
	number  = api.Type{Kind: api.Int}
	numbers = api.Type{Kind: api.Arr}
	nothing = api.Type{Kind: api.Void}
)

func ref(n int) api.Type { return api.Type{Kind: api.Ref, N: n} }

// types is a list of them.
func types(list ...api.Type) []api.Type { return list }

// many is a list of so many like one.
func many[T any](n int, x T) []T { return slices.Repeat([]T{x}, n) }

// op is an instruction by its numbers, of which the last ones may lack.
func op(list ...int) api.Instr {
	list = append(list, 0, 0)
	return api.Instr{Op: list[0], A: list[1], B: list[2]}
}

// method is one of some code, by its arguments and its result, which takes
// nothing.
func method(ret api.Type, args []api.Type, code ...api.Instr) api.Method {
	return api.Method{Args: args, Ret: ret, Code: code, Phi: make([]int, len(code))}
}

// taking is a method that says how many cells are left at each instruction.
func taking(x api.Method, phi ...int) api.Method {
	x.Phi, x.Pot = phi, phi[0]
	return x
}

// Some methods of the sample.
const (
	keep  = iota // an entry: keeps an array
	low          // in a slot of class 0
	high         // in that slot of class 1, which makes an object
	slot         // an entry: makes an object, and calls the slot
	forth        // an entry: it and back call each other
	back
	great // no entry: takes more than any of them
	behind
)

// sample is an applet that says just what it needs. What its methods take of
// the stack: 6, 5, 5, 9, 28, 28, 39; of the heap: 6, 0, 3, 6, 0, 0, 100.
func sample() api.Image {
	ret := op(api.OpRet)
	wide := method(nothing, nil, op(api.OpPush), op(api.OpArr, 99), op(api.OpPop), op(api.OpPush), op(api.OpCall, forth), ret)
	wide.Locals = many(7, number)
	m := api.Image{
		Classes: []api.Class{{Super: -1, Fields: types(number), Slots: []int{low}}, {Super: 0, Fields: types(numbers), Slots: []int{high}}},
		Statics: types(numbers, ref(0)),
		Ints:    []int32{1, -3},
		Methods: []api.Method{
			taking(method(number, types(number), op(api.OpGet), op(api.OpArr, 5), op(api.OpDup), op(api.OpSetStatic), op(api.OpLen), ret), 6, 6, 0, 0, 0, 0),
			method(number, types(ref(0)), op(api.OpGet), op(api.OpField), ret),
			taking(method(number, types(ref(1)), op(api.OpNew, 1), op(api.OpPop), op(api.OpPush), ret), 3, 0, 0, 0),
			taking(method(number, nil, op(api.OpNew, 1), op(api.OpVirt), ret), 6, 3, 0),
			method(nothing, types(number), op(api.OpGet), op(api.OpZero, 4), op(api.OpGet), op(api.OpCall, back), ret),
			method(nothing, types(number), op(api.OpGet), op(api.OpPush), op(api.OpSub), op(api.OpCall, forth), ret),
			taking(wide, 100, 100, 0, 0, 0, 0),
		},
		Entries: []int{keep, slot, forth},
		Stack:   28,
		Heap:    8,
	}
	m.Methods[forth].Depth, m.Methods[back].Depth = 2, 3
	return m
}

// told is the beginning of something: long ones would hide what is wrong.
func told(x any) string {
	text := fmt.Sprint(x)
	return text[:min(len(text), 400)]
}

// typesOf are chapter 9's, of an image that has some.
func typesOf(t *testing.T, m api.Image) [][]api.Shape {
	t.Helper()
	maps, f, pc, e := typer.Check(m)
	if e != api.OK {
		t.Fatalf("%s has no types: %d at %d of %d", told(m), e, pc, f)
	}
	return maps
}

// sameMaps: are two alike?
func sameMaps(a, b [][]api.Shape) bool {
	return slices.EqualFunc(a, b, func(x, y []api.Shape) bool {
		return slices.EqualFunc(x, y, func(p, q api.Shape) bool {
			return p.Seen == q.Seen && slices.Equal(p.Stack, q.Stack)
		})
	})
}

// encoded are the bytes of an image, which has to fit.
func encoded(t *testing.T, m api.Image) []byte {
	t.Helper()
	b, e := image.Encode(m)
	if e != api.OK {
		t.Fatalf("%s has no bytes: %d", told(m), e)
	}
	return b
}

// wantTaken holds Check, and Bytes, to taking an image, with chapter 9's types.
func wantTaken(t *testing.T, m api.Image) {
	t.Helper()
	want := typesOf(t, m)
	if maps, e := admit.Check(m); e != api.OK || !sameMaps(maps, want) {
		t.Errorf("Check(%s) = %s %d, want %s", told(m), told(maps), e, told(want))
	}
	if got, maps, e := admit.Bytes(encoded(t, m)); e != api.OK || !image.Same(got, m) || !sameMaps(maps, want) {
		t.Errorf("Bytes of %s = %s %s %d", told(m), told(got), told(maps), e)
	}
}

// wantWrong holds Check to an error, and Bytes, where there are bytes.
func wantWrong(t *testing.T, m api.Image, want api.Errno) {
	t.Helper()
	if maps, e := admit.Check(m); e != want || len(maps) != 0 {
		t.Errorf("Check(%s) = %s %d, want %d", told(m), told(maps), e, want)
	}
	if image.Fits(m) {
		wantWrongBytes(t, encoded(t, m), want)
	}
}

// wantWrongBytes holds Bytes to an error, and to nothing beside it.
func wantWrongBytes(t *testing.T, b []byte, want api.Errno) {
	t.Helper()
	if m, maps, e := admit.Bytes(b); e != want || len(maps) != 0 || !image.Same(m, api.Image{}) {
		t.Errorf("Bytes(%s) = %s %s %d, want %d", told(b), told(m), told(maps), e, want)
	}
}

func wantNeeds(t *testing.T, m api.Image, maps [][]api.Shape, stack, heap int) {
	t.Helper()
	if s, h, e := admit.Needs(m, maps); s != stack || h != heap || e != api.OK {
		t.Errorf("Needs(%s) = %d %d %d, want %d %d", told(m), s, h, e, stack, heap)
	}
}

// wantUnsaid holds Needs to ErrDepth.
func wantUnsaid(t *testing.T, m api.Image, maps [][]api.Shape) {
	t.Helper()
	if s, h, e := admit.Needs(m, maps); s != 0 || h != 0 || e != api.ErrDepth {
		t.Errorf("Needs(%s) = %d %d %d, want ErrDepth", told(m), s, h, e)
	}
}

// P16.1: what is right, and says so, is taken, by just what it needs and by
// more.
func TestTaken(t *testing.T) {
	m := sample()
	for _, more := range [][2]int{{28, 8}, {29, 8}, {28, 9}, {api.MaxQuota, api.MaxQuota}} {
		m.Stack, m.Heap = more[0], more[1]
		wantTaken(t, m)
	}
	wantTaken(t, api.Image{})
	wantTaken(t, api.Image{Stack: 1, Heap: 1})
	wantTaken(t, api.Image{Methods: []api.Method{method(nothing, nil, op(api.OpJump))}})
}

// P16.1: of an image without entries just the statics are needed.
func TestTakenWithoutEntry(t *testing.T) {
	m := sample()
	m.Entries, m.Stack, m.Heap = nil, 0, 2
	wantTaken(t, m)
	m.Heap = 1
	wantWrong(t, m, api.ErrQuota)
	m.Statics = nil
	wantWrong(t, m, api.ErrName) // keep names one
	m = api.Image{Statics: types(number), Heap: 1}
	wantTaken(t, m)
	m.Heap = 0
	wantWrong(t, m, api.ErrQuota)
}

// fault spoils an image, and what is answered then.
type fault struct {
	e     api.Errno
	spoil func(m *api.Image)
}

// faults are some of each kind, in the order in which they are looked for; one
// of a kind does not touch what one of another kind does.
func faults() [][]fault {
	return [][]fault{{
		{api.ErrImage, func(m *api.Image) { m.Methods[low].Depth = -1 }},
		{api.ErrImage, func(m *api.Image) { m.Ints = make([]int32, api.MaxInts+1) }},
	}, {
		{api.ErrName, func(m *api.Image) { m.Entries = append(m.Entries, behind) }},
		{api.ErrName, func(m *api.Image) { m.Methods[slot].Code[1].B = 1 }},
	}, {
		{api.ErrType, func(m *api.Image) { m.Methods[low].Code[1] = op(api.OpAdd) }},
		{api.ErrType, func(m *api.Image) { m.Methods[great].Code[5] = op(api.OpPush) }},
	}, {
		{api.ErrDepth, func(m *api.Image) { m.Methods[back].Depth = 0 }},
		{api.ErrDepth, func(m *api.Image) { m.Methods[forth].Depth = 0 }},
	}, {
		{api.ErrPot, func(m *api.Image) { m.Methods[great].Pot = 99 }},
		{api.ErrPot, func(m *api.Image) { m.Methods[keep].Phi[1] = 5 }},
		{api.ErrPot, func(m *api.Image) { m.Methods[high].Phi[3] = 1 }},
	}, {
		{api.ErrQuota, func(m *api.Image) { m.Stack = 27 }},
		{api.ErrQuota, func(m *api.Image) { m.Heap = 7 }},
		{api.ErrQuota, func(m *api.Image) { m.Stack, m.Heap = 0, 0 }},
		{api.ErrQuota, func(m *api.Image) { m.Stack, m.Heap = 27, api.MaxQuota }},
		{api.ErrQuota, func(m *api.Image) { m.Stack, m.Heap = api.MaxQuota, 7 }},
	}}
}

// P16.1: the first of all that is wrong: of each kind none or one, in all ways.
func TestFirst(t *testing.T) {
	kinds := faults()
	var spoiled func(m api.Image, k int, first api.Errno)
	spoiled = func(m api.Image, k int, first api.Errno) {
		if k == len(kinds) {
			if first == api.OK {
				wantTaken(t, m)
			} else {
				wantWrong(t, m, first)
			}
			return
		}
		spoiled(m, k+1, first)
		for _, x := range kinds[k] {
			n := image.Copy(m)
			x.spoil(&n)
			e := first
			if e == api.OK {
				e = x.e
			}
			spoiled(n, k+1, e)
		}
	}
	spoiled(sample(), 0, api.OK)
}

// P16.1: ErrDepth, also of one that no entry comes to; ErrPot likewise; ErrType
// of one that nobody calls.
func TestAllMethods(t *testing.T) {
	m := sample()
	m.Entries = []int{keep}
	wantTaken(t, m)
	for _, k := range []int{2, 3, 4} {
		for _, x := range faults()[k] {
			n := image.Copy(m)
			x.spoil(&n)
			wantWrong(t, n, x.e)
		}
	}
}

// P16.1: the most Bound of an entry, and the most Pot of one, which may be two;
// that of others does not count, how ever great it is.
func TestNeedsByEntries(t *testing.T) {
	m := sample()
	maps := typesOf(t, m)
	for _, c := range []struct {
		entries     []int
		stack, heap int
	}{
		{nil, 0, 2}, {[]int{keep}, 6, 8}, {[]int{low}, 5, 2}, {[]int{high}, 5, 5}, {[]int{slot}, 9, 8},
		{[]int{forth}, 28, 2}, {[]int{back}, 28, 2}, {[]int{great}, 39, 102},
		{[]int{keep, keep}, 6, 8}, {[]int{keep, slot}, 9, 8}, {[]int{slot, keep}, 9, 8},
		{[]int{high, back}, 28, 5}, {[]int{back, high}, 28, 5}, {[]int{low, back, high, low}, 28, 5},
		{[]int{keep, low, high, slot, forth, back, great}, 39, 102}, {[]int{great, keep}, 39, 102},
	} {
		m.Entries = c.entries
		wantNeeds(t, m, maps, c.stack, c.heap)
		// What it says does not count.
		m.Stack, m.Heap = m.Stack^8, m.Heap^8
		wantNeeds(t, m, maps, c.stack, c.heap)
	}
}

// P16.1: what the methods say counts, whether it is right or not.
func TestNeedsByWhatIsSaid(t *testing.T) {
	m := sample()
	maps := typesOf(t, m)
	for _, n := range []int{0, 1, 5, 7, api.MaxPot} {
		m.Methods[keep].Pot, m.Methods[great].Pot = n, api.MaxPot
		wantNeeds(t, m, maps, 28, 2+max(n, 6))
		m.Methods[slot].Pot = 0
		wantNeeds(t, m, maps, 28, 2+n)
		m.Methods[slot].Pot = 6
	}
	m = sample()
	for often := 1; often <= api.MaxDepth; often++ {
		m.Methods[forth].Depth = often
		wantNeeds(t, m, maps, 5*often+18, 8)
		m.Methods[keep].Depth = often // which does not come back to itself
		wantNeeds(t, m, maps, 5*often+18, 8)
	}
	m.Methods[forth].Depth = 2
	m.Methods[slot].Locals = many(8, number)
	wantNeeds(t, m, maps, 28, 8)
	m.Entries = []int{keep, slot}
	wantNeeds(t, m, maps, 17, 8)
	maps[slot][2].Stack = many(5, number) // by what maps it is asked
	wantNeeds(t, m, maps, 21, 8)
	wantNeeds(t, m, nil, 15, 8)
}

// P16.1: a static takes a cell, whatever it is.
func TestNeedsOfStatics(t *testing.T) {
	m := sample()
	maps := typesOf(t, m)
	for n := range api.MaxStatics + 1 {
		m.Statics = slices.Repeat(types(number, numbers, ref(1)), 3)[:n]
		wantNeeds(t, m, maps, 28, 6+n)
	}
	wantNeeds(t, api.Image{Statics: m.Statics}, nil, 0, len(m.Statics))
	wantNeeds(t, api.Image{}, nil, 0, 0)
}

// P16.1: ErrDepth of any method that comes back to itself, entry or not.
func TestNeedsUnsaid(t *testing.T) {
	for _, f := range []int{forth, back} {
		for _, entries := range [][]int{nil, {keep}, {forth}, {great}, sample().Entries} {
			m := sample()
			maps := typesOf(t, m)
			m.Methods[f].Depth, m.Entries = 0, entries
			wantUnsaid(t, m, maps)
			wantUnsaid(t, m, nil)
		}
	}
}

// P16.1: each quota by itself, at what is needed and one below it, of all that
// a method may say, up to what no image may.
func TestQuotas(t *testing.T) {
	for n := range api.MaxPot + 1 {
		m := sample()
		m.Methods[keep].Pot = n
		m.Heap = 2 + max(n, 6)
		want, less := api.OK, api.ErrQuota
		switch {
		case n < 6:
			want, less = api.ErrPot, api.ErrPot
		case n == api.MaxPot:
			want, less = api.ErrImage, api.ErrImage
		case n == api.MaxPot-1:
			want = api.ErrImage
		}
		if _, e := admit.Check(m); e != want {
			t.Fatalf("Check of Pot %d, by what it needs: %d, want %d", n, e, want)
		}
		m.Heap--
		if _, e := admit.Check(m); e != less {
			t.Fatalf("Check of Pot %d, by one less: %d, want %d", n, e, less)
		}
	}
	for often := 1; often <= api.MaxDepth; often++ {
		m := sample()
		m.Methods[forth].Depth = often
		m.Stack = 5*often + 18
		wantTaken(t, m)
		m.Stack--
		wantWrong(t, m, api.ErrQuota)
	}
}

// P16.1: Bytes: chapter 5's error, of bytes that are no image's.
func TestBytesOfNone(t *testing.T) {
	b := encoded(t, sample())
	for n := range b {
		wantWrongBytes(t, b[:n], api.ErrImage)
		if n > 0 {
			wantWrongBytes(t, b[n:], api.ErrImage)
		}
	}
	wantWrongBytes(t, nil, api.ErrImage)
	wantWrongBytes(t, append(slices.Clone(b), 0), api.ErrImage)
	wantWrongBytes(t, append(slices.Clone(b), b...), api.ErrImage)
	wantWrongBytes(t, append(slices.Clone(b), make([]byte, api.MaxImage+1-len(b))...), api.ErrImage)
	wantWrongBytes(t, make([]byte, api.MaxImage+1), api.ErrImage)
}

// wrongs are what each chapter says by itself, one behind the other.
func wrongs(m api.Image) []func() api.Errno {
	maps := func() [][]api.Shape {
		list, _, _, _ := typer.Check(m)
		return list
	}
	return []func() api.Errno{
		func() api.Errno { return sane.Check(m) },
		func() api.Errno {
			_, _, _, e := typer.Check(m)
			return e
		},
		func() api.Errno {
			_, e := depth.Bound(m, maps())
			return e
		},
		func() api.Errno {
			_, e := pot.Check(m, maps())
			return e
		},
		func() api.Errno {
			bounds, _ := depth.Bound(m, maps())
			for _, f := range m.Entries {
				if bounds[f] > m.Stack || m.Methods[f].Pot > m.Heap-len(m.Statics) {
					return api.ErrQuota
				}
			}
			if m.Heap < len(m.Statics) {
				return api.ErrQuota
			}
			return api.OK
		},
	}
}

// wantWords holds Check and Bytes to what the chapters say of an image, and
// tells what that is.
func wantWords(t *testing.T, m api.Image) api.Errno {
	t.Helper()
	for _, wrong := range wrongs(m) {
		if e := wrong(); e != api.OK {
			wantWrong(t, m, e)
			return e
		}
	}
	wantTaken(t, m)
	return api.OK
}

// P16.1: each byte of an image's changed, to all that it may be: what comes of
// it is as the chapters say, and all of it is met.
func TestEachByte(t *testing.T) {
	b := encoded(t, sample())
	var met [api.ErrLin + 1]int
	for at := range b {
		for by := 1; by < 256; by++ {
			changed := slices.Clone(b)
			changed[at] ^= byte(by)
			m, e := image.Decode(changed)
			if e != api.OK {
				wantWrongBytes(t, changed, api.ErrImage)
				met[e]++
				continue
			}
			met[wantWords(t, m)]++
		}
		if t.Failed() {
			return
		}
	}
	for _, e := range []api.Errno{api.OK, api.ErrImage, api.ErrName, api.ErrType, api.ErrDepth, api.ErrPot, api.ErrQuota} {
		if met[e] < 2 {
			t.Errorf("%d was met %d times alone", e, met[e])
		}
	}
}

// dice throws numbers below a limit, each made of the one ahead of it.
func dice(seed uint64) func(int) int {
	return func(limit int) int {
		seed = seed*6364136223846793005 + 1442695040888963407
		return int(seed >> 33 % uint64(limit))
	}
}

// Of a thrown image: 0 to 2 stand in slots of its classes, and call nobody.
const slots = 3

// part is code that leaves nothing behind: it makes something, calls one behind
// method f, or waits for a number in a ring that makes nothing.
func part(throw func(int) int, f, methods, pc int) []api.Instr {
	switch throw(8) {
	case 0:
		return []api.Instr{op(api.OpNew, throw(3)), op(api.OpPop)}
	case 1:
		return []api.Instr{op(api.OpPush), op(api.OpArr, throw(40)), op(api.OpPop)}
	case 2, 3:
		if f >= slots && f+1 < methods {
			return []api.Instr{op(api.OpCall, f+1+throw(methods-f-1))}
		}
	case 4:
		if f >= slots {
			return []api.Instr{op(api.OpNew, 2), op(api.OpVirt, throw(3))}
		}
	case 5:
		return []api.Instr{op(api.OpPush), op(api.OpZero, pc)}
	case 6:
		return append(many(1+throw(api.MaxOps), op(api.OpNull)), op(api.OpRet))
	}
	return []api.Instr{op(api.OpPush), op(api.OpPop)}
}

// thrown is code of parts. Ahead of each one it may go on at one further on.
func thrown(throw func(int) int, f, methods int) []api.Instr {
	var list []api.Instr
	var open []int // where it goes on at is not known yet
	for range throw(7) {
		if throw(2) == 0 {
			open = append(open, len(list)+1)
			list = append(list, op(api.OpPush), op(api.OpZero))
		}
		list = append(list, part(throw, f, methods, len(list))...)
		for len(open) > 0 && throw(2) == 0 {
			list[open[0]].A = len(list)
			open = open[1:]
		}
	}
	for _, pc := range open {
		list[pc].A = len(list)
	}
	return append(list, op(api.OpRet))
}

// applet is a thrown image, whose calls are not Cyclic, and which makes nothing
// in a ring of instructions.
func applet(throw func(int) int) api.Image {
	m := api.Image{
		Classes: []api.Class{{Super: -1, Slots: []int{0}}, {Super: 0, Fields: many(throw(4), number), Slots: []int{1}}, {Super: 1, Fields: many(throw(5), ref(0)), Slots: []int{2}}},
		Statics: many(throw(api.MaxStatics+1), numbers),
		Ints:    []int32{1},
		Methods: make([]api.Method, slots+throw(api.MaxMethods-slots+1)),
	}
	for f := range m.Methods {
		x := method(nothing, nil, thrown(throw, f, len(m.Methods))...)
		if f < slots {
			x.Args = types(ref(f))
		} else {
			x.Locals = many(throw(4), number)
			if throw(2) == 0 {
				m.Entries = append(m.Entries, f)
			}
		}
		m.Methods[f] = x
	}
	return m
}

// callees are those that an instruction of a thrown image may call.
func callees(m api.Image, i api.Instr) []int {
	switch i.Op {
	case api.OpCall:
		return []int{i.A}
	case api.OpVirt: // of a class, or of those below it, which stand behind it
		return []int{0, 1, 2}[i.A:]
	}
	return nil
}

// chain is the most cells of the frames of a method and of those that it calls,
// one under another.
func chain(m api.Image, maps [][]api.Shape, f int) int {
	x := m.Methods[f]
	most := 0
	for _, i := range x.Code {
		for _, g := range callees(m, i) {
			most = max(most, chain(m, maps, g))
		}
	}
	operands := 0
	for _, s := range maps[f] {
		operands = max(operands, len(s.Stack))
	}
	return 3 + len(x.Args) + len(x.Locals) + operands + most
}

// makes is the most cells that a method takes from an instruction on, going
// forwards alone.
func makes(m api.Image, maps [][]api.Shape, f, pc int) int {
	i := m.Methods[f].Code[pc]
	n := 0
	switch i.Op {
	case api.OpRet:
		return 0
	case api.OpArr:
		n = 1 + i.A
	case api.OpNew:
		for c := range i.A + 1 { // each one is below the one ahead of it
			n += len(m.Classes[c].Fields)
		}
		n++
	}
	for _, g := range callees(m, i) {
		n = max(n, makes(m, maps, g, 0))
	}
	most := makes(m, maps, f, pc+1)
	if i.Op == api.OpZero && i.A > pc {
		most = max(most, makes(m, maps, f, i.A))
	}
	return n + most
}

// needs are what a thrown image takes by the longest chain, and the longest way.
func needs(m api.Image, maps [][]api.Shape) (stack, heap int) {
	for _, f := range m.Entries {
		stack = max(stack, chain(m, maps, f))
		heap = max(heap, makes(m, maps, f, 0))
	}
	return stack, len(m.Statics) + heap
}

// P16.1, what follows: Fill's image is taken in by what it Needs, and by no
// less; what it Needs is what its longest calls take.
func TestFilled(t *testing.T) {
	throw := dice(16)
	taken := 0
	for range 500 {
		m := applet(throw)
		maps := typesOf(t, m)
		m, ok := pot.Fill(m, maps)
		if !ok {
			continue // above MaxPot
		}
		stack, heap := needs(m, maps)
		wantNeeds(t, m, maps, stack, heap)
		if heap > api.MaxQuota {
			continue // the statics are what is too much
		}
		m.Stack, m.Heap = stack, heap
		wantTaken(t, m)
		taken++
		wantAround(t, m)
		if t.Failed() {
			return
		}
	}
	if taken < 300 {
		t.Errorf("%d were taken in", taken)
	}
}

// wantAround holds Check of an image that says just what it needs to taking no
// less of anything, and to taking more.
func wantAround(t *testing.T, m api.Image) {
	t.Helper()
	for _, by := range [][2]int{{-1, 0}, {0, -1}, {-1, -1}, {-1, 1}, {1, -1}, {1, 0}, {0, 1}} {
		n := m
		n.Stack, n.Heap = m.Stack+by[0], m.Heap+by[1]
		switch {
		case n.Stack < 0 || n.Heap < 0 || n.Heap > api.MaxQuota:
			wantWrong(t, n, api.ErrImage)
		case by[0] < 0 || by[1] < 0:
			wantWrong(t, n, api.ErrQuota)
		default:
			wantTaken(t, n)
		}
	}
	for f, x := range m.Methods {
		if x.Pot > 0 {
			n := image.Copy(m)
			n.Methods[f].Pot--
			wantWrong(t, n, api.ErrPot)
			n.Stack, n.Heap = 0, 0 // and more is wrong behind it
			wantWrong(t, n, api.ErrPot)
		}
	}
}

// P16.1: thrown images with a few numbers changed, which say enough of the
// quotas or not, to what the chapters say.
func TestMixed(t *testing.T) {
	throw := dice(61)
	var met [api.ErrLin + 1]int
	for range 4000 {
		m := applet(throw)
		if filled, ok := pot.Fill(m, typesOf(t, m)); ok {
			m = filled
		}
		m.Stack, m.Heap = throw(120), throw(400)
		for range throw(3) {
			x := &m.Methods[throw(len(m.Methods))]
			pc := throw(len(x.Code))
			switch throw(6) {
			case 0:
				x.Code[pc].A = throw(256)
			case 1:
				x.Code[pc] = op(1+throw(api.OpCast), throw(4))
			case 2:
				x.Code[pc] = op(api.OpCall, throw(len(m.Methods)))
				x.Depth = throw(2)
			case 3:
				x.Phi[pc] = throw(50)
			case 4:
				x.Pot += throw(40)
			case 5:
				m.Entries = append(m.Entries, throw(len(m.Methods)))
			}
		}
		met[wantWords(t, m)]++
		if t.Failed() {
			return
		}
	}
	for _, e := range []api.Errno{api.OK, api.ErrImage, api.ErrName, api.ErrType, api.ErrDepth, api.ErrPot, api.ErrQuota} {
		if met[e] < 20 {
			t.Errorf("%d was met %d times alone", e, met[e])
		}
	}
}

// R1: entries that are no methods do not count, whatever they are; what is below
// 0 counts as it is.
func TestNeedsOfNotSane(t *testing.T) {
	m := sample()
	maps := typesOf(t, m)
	wrong := []int{math.MinInt, -1, behind, 99, math.MaxInt}
	m.Entries = wrong
	wantNeeds(t, m, maps, 0, 2)
	wantNeeds(t, m, append(maps, maps...), 0, 2)
	m.Entries = append(slices.Clone(wrong), high)
	wantNeeds(t, m, maps, 5, 5)
	m.Entries = slices.Concat([]int{high}, wrong, []int{slot}, wrong)
	wantNeeds(t, m, maps, 9, 8)
	wantNeeds(t, api.Image{Entries: []int{0, 1}}, maps, 0, 0)
	m.Methods[high].Pot = -7
	m.Entries = []int{high}
	wantNeeds(t, m, maps, 5, -5)
	m.Methods[low].Pot = -3
	m.Entries = []int{high, low, -1, high}
	wantNeeds(t, m, maps, 5, -1)
	m.Methods[back].Depth = -9
	m.Entries = []int{forth}
	wantNeeds(t, m, maps, 10-54, 2)
}

// R1: anything is answered: numbers at their ends in each place of an image, and
// lists that are long, or lack.
func TestCheckOfNotSane(t *testing.T) {
	for _, n := range []int{math.MinInt, -1, 256, math.MaxInt} {
		for _, spoil := range []func(m *api.Image){
			func(m *api.Image) { m.Stack = n },
			func(m *api.Image) { m.Heap = n },
			func(m *api.Image) { m.Entries[0] = n },
			func(m *api.Image) { m.Classes[1].Super = min(n, -2) },
			func(m *api.Image) { m.Classes[1].Slots[0] = n },
			func(m *api.Image) { m.Classes[0].Fields[0].N = n },
			func(m *api.Image) { m.Statics[0].Kind = n },
			func(m *api.Image) { m.Methods[back].Code[0].Op = n },
			func(m *api.Image) { m.Methods[back].Code[1].A = n },
			func(m *api.Image) { m.Methods[back].Code[3].B = n },
			func(m *api.Image) { m.Methods[back].Depth = n },
			func(m *api.Image) { m.Methods[back].Ret.Kind = n },
			func(m *api.Image) { m.Methods[great].Pot = n },
			func(m *api.Image) { m.Methods[great].Phi[2] = n },
		} {
			m := sample()
			spoil(&m)
			e := sane.Check(m)
			if n == 256 && e == api.OK {
				wantWords(t, m) // a quota may be 256, and a Pot
				continue
			}
			wantWrong(t, m, e)
			admit.Needs(m, nil)
			admit.Needs(m, [][]api.Shape{nil, {{}}, {{Seen: true, Stack: many(99, number)}}})
		}
	}
	wantWrong(t, api.Image{Methods: make([]api.Method, 1)}, api.ErrName)
	wantWrong(t, api.Image{Methods: make([]api.Method, 5000)}, api.ErrImage)
	wantNeeds(t, api.Image{Methods: make([]api.Method, 5000), Entries: []int{4999}}, nil, 3, 0)
}

// R1: bytes of any kind behind the mark.
func TestBytesOfAnyKind(t *testing.T) {
	throw := dice(7)
	for range 20000 {
		b := []byte("plim")
		for range throw(60) {
			b = append(b, byte(throw(1+throw(256))))
		}
		if m, e := image.Decode(b); e != api.OK {
			wantWrongBytes(t, b, e)
		} else {
			wantWords(t, m)
		}
	}
}

// roomy is a list with spare room, in which there is something.
func roomy[T any](list []T, spare T) []T {
	return append(slices.Clone(list), spare, spare, spare)[:len(list)]
}

// handed is the sample and its types, with spare room in which there is
// something that would count, if it were there.
func handed(t *testing.T) (api.Image, [][]api.Shape) {
	t.Helper()
	m := sample()
	maps := typesOf(t, m)
	for f := range m.Methods {
		x := &m.Methods[f]
		x.Args, x.Locals = roomy(x.Args, number), roomy(x.Locals, number)
		x.Code, x.Phi = roomy(x.Code, op(api.OpAdd)), roomy(x.Phi, 9)
		for pc := range maps[f] {
			maps[f][pc].Stack = roomy(maps[f][pc].Stack, number)
		}
		maps[f] = roomy(maps[f], api.Shape{Seen: true, Stack: many(9, number)})
	}
	for c := range m.Classes {
		x := &m.Classes[c]
		x.Fields, x.Slots = roomy(x.Fields, number), roomy(x.Slots, great)
	}
	m.Classes = roomy(m.Classes, api.Class{Super: 0, Slots: []int{great}})
	m.Methods = roomy(m.Methods, api.Method{Pot: 99})
	m.Ints, m.Statics, m.Entries = roomy(m.Ints, 7), roomy(m.Statics, number), roomy(m.Entries, great)
	return m, roomy(maps, []api.Shape{{Seen: true}})
}

// full is a list with its spare room.
func full[T any](list []T) []T { return list[:cap(list)] }

// whole is an image and maps with the spare room of their lists.
func whole(m api.Image, maps [][]api.Shape) string {
	all := []any{full(m.Ints), full(m.Statics), full(m.Entries), m.Stack, m.Heap}
	for _, c := range full(m.Classes) {
		all = append(all, c, full(c.Fields), full(c.Slots))
	}
	for _, x := range full(m.Methods) {
		all = append(all, x, full(x.Args), full(x.Locals), full(x.Code), full(x.Phi))
	}
	for _, list := range full(maps) {
		for _, s := range full(list) {
			all = append(all, s, full(s.Stack))
		}
	}
	return fmt.Sprint(all)
}

// R4: what is handed in stays as it is, spare room included, and what lies
// there does not count.
func TestKeepsArguments(t *testing.T) {
	m, maps := handed(t)
	before := whole(m, maps)
	wantTaken(t, m)
	wantNeeds(t, m, maps, 28, 8)
	for _, kind := range faults() {
		for _, x := range kind {
			n := image.Copy(m)
			x.spoil(&n)
			spoiled := whole(n, maps)
			admit.Check(n)
			admit.Needs(n, maps)
			if whole(n, maps) != spoiled {
				t.Errorf("it is changed: %s", told(n))
			}
		}
	}
	if whole(m, maps) != before {
		t.Errorf("it is changed: %s %s", told(m), told(maps))
	}
	b := encoded(t, m)
	for _, c := range [][]byte{b, b[:len(b)-1], b[4:]} {
		room := roomy(c, 1)
		kept := slices.Clone(full(room))
		admit.Bytes(room)
		if !slices.Equal(full(room), kept) {
			t.Errorf("bytes are changed: %s", told(room))
		}
	}
}

// fillUp writes over all of some maps, spare room included.
func fillUp(maps [][]api.Shape) {
	for _, list := range full(maps) {
		for pc := range full(list) {
			s := &full(list)[pc]
			for k := range full(s.Stack) {
				full(s.Stack)[k] = ref(77)
			}
			s.Seen = !s.Seen
		}
	}
}

// wantLone holds the lists of some maps to sharing no memory, spare room
// included.
func wantLone(t *testing.T, maps [][]api.Shape) {
	t.Helper()
	k := 0
	name := func(set bool) {
		k = 0
		for _, list := range full(maps) {
			for pc := range full(list) {
				s := &full(list)[pc]
				for at := range full(s.Stack) {
					k++
					if set {
						full(s.Stack)[at].N = k
					} else if full(s.Stack)[at].N != k {
						t.Fatalf("two lists of an answer share memory: %s", told(maps))
					}
				}
			}
		}
	}
	name(true)
	name(false)
	if k < 20 {
		t.Errorf("only %d operands in %s", k, told(maps))
	}
}

// R4: an answer shares no memory with what was handed in, or with another
// answer, spare room included, nor do lists of one.
func TestAnswersApart(t *testing.T) {
	m, known := handed(t)
	before := whole(m, known)
	want := typesOf(t, m)
	b := encoded(t, m)
	one, _ := admit.Check(m)
	other, _ := admit.Check(m)
	first, its, _ := admit.Bytes(b)
	second, hers, _ := admit.Bytes(b)
	fillUp(one)
	fillUp(its)
	clear(full(first.Ints))
	clear(full(first.Entries))
	clear(full(first.Statics))
	for f := range first.Methods {
		clear(full(first.Methods[f].Code))
		clear(full(first.Methods[f].Phi))
		clear(full(first.Methods[f].Args))
	}
	clear(full(first.Methods))
	clear(full(first.Classes))
	if whole(m, known) != before || !slices.Equal(b, encoded(t, m)) {
		t.Errorf("what was handed in changed with an answer: %s", told(m))
	}
	clear(full(b))
	if !sameMaps(other, want) || !sameMaps(hers, want) || !image.Same(second, m) {
		t.Errorf("an answer changed with another one: %s %s %s", told(other), told(hers), told(second))
	}
	wantLone(t, other)
	wantLone(t, hers)
}

// R5: the same, however often it is asked, and whatever was asked in between.
func TestAgain(t *testing.T) {
	m, maps := handed(t)
	for range 50 {
		wantTaken(t, m)
		wantNeeds(t, m, maps, 28, 8)
		for _, kind := range faults() {
			for _, x := range kind {
				n := image.Copy(m)
				x.spoil(&n)
				wantWrong(t, n, x.e)
			}
		}
	}
}
