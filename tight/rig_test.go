package tight_test

import (
	"fmt"
	"math"
	"slices"
	"testing"

	"plimsoll/admit"
	"plimsoll/api"
	"plimsoll/depth"
	"plimsoll/free"
	"plimsoll/image"
	"plimsoll/pot"
	"plimsoll/tight"
	"plimsoll/typer"
)

const (
	least = math.MinInt32
	most  = math.MaxInt32
)

var (
	number  = api.Type{Kind: api.Int}
	numbers = api.Type{Kind: api.Arr}
	nothing = api.Type{Kind: api.Void}
)

func ref(n int) api.Type { return api.Type{Kind: api.Ref, N: n} }

// types is a list of them.
func types(list ...api.Type) []api.Type { return list }

// many is a list of so many like one.
func many[T any](n int, x T) []T { return slices.Repeat([]T{x}, n) }

// op is an instruction by its numbers, of which the last ones may lack.
func op(list ...int) api.Instr {
	list = append(list, 0, 0)
	return api.Instr{Op: list[0], A: list[1], B: list[2]}
}

// code is a list of instructions.
func code(list ...api.Instr) []api.Instr { return list }

// Instructions without numbers, and OpGet's.
var (
	load, store, length = op(api.OpLoad), op(api.OpStore), op(api.OpLen)
	pop, dup, ret       = op(api.OpPop), op(api.OpDup), op(api.OpRet)
	null, isNull, same  = op(api.OpNull), op(api.OpIsNull), op(api.OpSame)
	add, sub            = op(api.OpAdd), op(api.OpSub)
	first, second       = op(api.OpGet), op(api.OpGet, 1)
)

func method(ret api.Type, args, locals []api.Type, code ...api.Instr) api.Method {
	return api.Method{Args: args, Locals: locals, Ret: ret, Code: code}
}

// told is the beginning of something: long ones would hide what is wrong.
func told(x any) string {
	text := fmt.Sprint(x)
	return text[:min(len(text), 900)]
}

// said is an image that says what it needs, if it may, and its types.
func said(m api.Image) (api.Image, [][]api.Shape, api.Errno) {
	m = image.Copy(m)
	for f := range m.Methods {
		m.Methods[f].Phi = make([]int, len(m.Methods[f].Code))
	}
	maps, _, _, e := typer.Check(m)
	if e != api.OK {
		return m, nil, e
	}
	filled, ok := pot.Fill(m, maps)
	if !ok {
		return m, nil, api.ErrPot
	}
	if filled.Stack, filled.Heap, e = admit.Needs(filled, maps); e != api.OK {
		return m, nil, e
	}
	maps, e = admit.Check(filled)
	return filled, maps, e
}

// rig is an applet that runs in cells, and on values beside it. The cells are as
// few as there may be.
type rig struct {
	m     api.Image
	maps  [][]api.Shape
	bound []int
	code  *tight.Code
	world *free.World
	taken []int32 // the cells of the heap that are
	met   map[int]int
}

// rigOf is one of an image that says what it needs: chapter 16 takes it in.
func rigOf(m api.Image, maps [][]api.Shape) *rig {
	bound, _ := depth.Bound(m, maps)
	c := tight.Make(m, maps)
	return &rig{m: m, maps: maps, bound: bound, code: c, world: free.New(m), taken: make([]int32, len(m.Statics)), met: map[int]int{}}
}

// taken is one of an image that chapter 16 has to take in.
func taken(t *testing.T, m api.Image) *rig {
	t.Helper()
	m, maps, e := said(m)
	if e != api.OK {
		t.Fatalf("%s is not taken in: %d", told(m), e)
	}
	return rigOf(m, maps)
}

// margin is how many cells there are around those that are handed out.
const margin = 5

// field is a list in the midst of others, all of which hold something else than
// 0; spare room of the list among them.
func field(list []int32, fill int32) (whole, part []int32) {
	whole = many(margin+len(list)+margin, fill)
	part = whole[margin : margin+len(list)]
	copy(part, list)
	return whole, part
}

// outcome is what a run comes to.
type outcome struct {
	end   int
	value int32
	taken []int32
}

func sameOutcome(a, b outcome) bool {
	return a.end == b.end && a.value == b.value && slices.Equal(a.taken, b.taken)
}

// try is what a run comes to in cells of which the free ones hold something, and
// of which there may be more than needed. Those that are not its own stay as they
// are.
func (x *rig) try(t *testing.T, f int, args []int32, fuel int, fill int32, more int) outcome {
	t.Helper()
	size, used := x.bound[f], len(x.taken)
	heap := append(slices.Clone(x.taken), many(x.m.Methods[f].Pot+more, fill)...)
	stacks, stack := field(many(size+more, fill), fill)
	heaps, heap := field(heap, fill)
	lists, list := field(args, fill)
	end, value, cells := x.code.Run(stack, heap, used, f, list, fuel)
	if cells < used || cells > len(heap) {
		t.Fatalf("Run(%d) leaves %d cells taken, of %d, where %d were", f, cells, len(heap), used)
	}
	for _, free := range [][]int32{stacks[:margin], stacks[margin+size:], heaps[:margin], heaps[margin+cells:]} {
		if !slices.Equal(free, many(len(free), fill)) {
			t.Errorf("Run(%d, %v, %d) has changed others' cells: %v", f, args, fuel, free)
		}
	}
	if _, want := field(args, fill); !slices.Equal(lists[margin:], want[:cap(want)]) {
		t.Errorf("Run(%d) has changed its arguments: %v", f, lists)
	}
	return outcome{end, value, slices.Clone(heap[:cells])}
}

// run is what a run comes to, whatever lies in free cells, and on values, too.
func (x *rig) run(t *testing.T, f int, args []int32, fuel int) outcome {
	t.Helper()
	got := x.try(t, f, args, fuel, 0, 0)
	for _, other := range []outcome{x.try(t, f, args, fuel, -7, 0), x.try(t, f, args, fuel, 1, 3), x.try(t, f, args, fuel, most, 300)} {
		if !sameOutcome(got, other) {
			t.Errorf("Run(%d, %v, %d) = %s in some cells, %s in others", f, args, fuel, told(got), told(other))
		}
	}
	end, value := x.onValues(f, args, fuel)
	if want := (outcome{end, value, cellsOf(x.world)}); !sameOutcome(got, want) {
		t.Errorf("Run(%d, %v, %d) = %s, on values %s", f, args, fuel, told(got), told(want))
	}
	x.taken = got.taken
	return got
}

// onValues is what a run on values comes to; the instructions that it does are
// counted.
func (x *rig) onValues(f int, args []int32, fuel int) (end int, value int32) {
	if x.world.Begin(f, args) != api.OK {
		return api.Spent, 0
	}
	for range fuel {
		g, pc, _, _, _ := x.world.Top()
		x.met[x.m.Methods[g].Code[pc].Op]++
		if end = x.world.Step(); end != api.Going {
			return end, x.world.Value()
		}
	}
	return api.Spent, 0
}

// cellsOf is how a world lies in cells: statics, and things as they were made,
// each behind a head that tells an object's class, or an array's length. A
// reference is the place behind the head.
func cellsOf(w *free.World) []int32 {
	next := len(w.Statics())
	var places []int
	for _, x := range w.Things() {
		places = append(places, next+1)
		next += 1 + len(x.Cells)
	}
	var out []int32
	put := func(list []free.Value) {
		for _, v := range list {
			n := v.N
			if v.R != 0 {
				n = int32(places[v.R-1])
			}
			out = append(out, n)
		}
	}
	put(w.Statics())
	for _, x := range w.Things() {
		if x.Class < 0 {
			out = append(out, int32(len(x.Cells)))
		} else {
			out = append(out, int32(x.Class))
		}
		put(x.Cells)
	}
	return out
}

// wantRun holds a run to what it comes to, and to how many cells are taken then.
func (x *rig) wantRun(t *testing.T, f int, args []int32, fuel, end int, value int32, cells int) {
	t.Helper()
	got := x.run(t, f, args, fuel)
	if got.end != end || got.value != value || len(got.taken) != cells {
		t.Errorf("Run(%d, %v, %d) = %d %d %d, want %d %d %d", f, args, fuel, got.end, got.value, len(got.taken), end, value, cells)
	}
}

// dice is a throw of numbers from 0 on, below n, always the same ones.
func dice(seed uint64) func(n int) int {
	return func(n int) int {
		seed ^= seed << 13
		seed ^= seed >> 7
		seed ^= seed << 17
		return int(seed % uint64(n))
	}
}
