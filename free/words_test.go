package free_test

import (
	"slices"
	"testing"

	"plimsoll/api"
	"plimsoll/class"
	"plimsoll/free"
	"plimsoll/kind"
	"plimsoll/num"
	"plimsoll/typer"
)

// item is a thing of words. What leads to it is the pointer.
type item struct {
	class int
	cells []any
}

// words runs an applet by the chapter's words in another way: a call is a call
// of the test's own, a value is an int32, an *item, or nil; a run that ends on the
// way panics with its end.
type words struct {
	m       api.Image
	statics []any
	made    []*item
	live    []int
	fuel    int
	steps   int
	met     map[int]int // how often each instruction was done
	look    func(f, pc int, locals, operands []any)
}

func wordsOf(m api.Image) *words {
	return &words{m: m, statics: empty(m.Statics), met: map[int]int{}}
}

// empty are first values.
func empty(list []api.Type) []any {
	var out []any
	for _, t := range list {
		if t == number {
			out = append(out, int32(0))
		} else {
			out = append(out, nil)
		}
	}
	return out
}

// run is what Run comes to.
func (w *words) run(f int, args []int32, fuel int) (end int, value int32, steps int) {
	w.fuel, w.steps, w.live = fuel, 0, nil
	defer func() {
		switch e := recover().(type) {
		case nil:
		case int:
			end, value, steps = e, 0, w.steps
		default:
			panic(e)
		}
	}()
	var list []any
	for _, n := range args {
		list = append(list, n)
	}
	value, _ = w.call(f, list).(int32)
	return api.Done, value, w.steps
}

// call runs a method to its end; nil of Void.
func (w *words) call(f int, args []any) any {
	x := w.m.Methods[f]
	if under := w.under(f); x.Depth > 0 && under >= x.Depth {
		panic(api.TrapDepth)
	}
	w.live = append(w.live, f)
	locals := append(args, empty(x.Locals)...)
	var ops []any
	for pc := 0; ; {
		if w.look != nil {
			w.look(f, pc, locals, ops)
		}
		if w.steps >= w.fuel {
			panic(api.Spent)
		}
		w.steps++
		i := x.Code[pc]
		w.met[i.Op]++
		pc++
		switch i.Op {
		case api.OpJump:
			pc = i.A
		case api.OpZero:
			if ops[len(ops)-1] == int32(0) {
				pc = i.A
			}
			ops = ops[:len(ops)-1]
		case api.OpRet:
			w.live = w.live[:len(w.live)-1]
			if x.Ret == nothing {
				return nil
			}
			return ops[len(ops)-1]
		case api.OpCall:
			ops = w.callOver(i.A, ops)
		case api.OpVirt:
			depth := len(ops) - len(w.m.Methods[w.m.Classes[i.A].Slots[i.B]].Args)
			ops = w.callOver(w.m.Classes[there(ops[depth]).class].Slots[i.B], ops)
		default:
			ops = w.plain(i, locals, ops)
		}
	}
}

// callOver calls a method with the last operands; the result stands there.
func (w *words) callOver(f int, ops []any) []any {
	x := w.m.Methods[f]
	rest := len(ops) - len(x.Args)
	result := w.call(f, slices.Clone(ops[rest:]))
	if x.Ret == nothing {
		return ops[:rest]
	}
	return append(ops[:rest], result)
}

// under is how often a method is under way.
func (w *words) under(f int) int {
	n := 0
	for _, g := range w.live {
		if f == g {
			n++
		}
	}
	return n
}

// there is a thing; it must not be null.
func there(v any) *item {
	if v == nil {
		panic(api.TrapNull)
	}
	return v.(*item)
}

func yes(is bool) any {
	if is {
		return int32(1)
	}
	return int32(0)
}

// is: does a reference lead to one that is below a class?
func (w *words) is(x *item, c int) bool {
	k := x.class
	for k > c {
		k = w.m.Classes[k].Super
	}
	return k == c
}

// plain does what calls nothing, and goes on at the next one.
func (w *words) plain(i api.Instr, locals, ops []any) []any {
	pop := func() any {
		v := ops[len(ops)-1]
		ops = ops[:len(ops)-1]
		return v
	}
	push := func(v any) { ops = append(ops, v) }
	cell := func(array any, n int) *any {
		x := there(array)
		if n < 0 || n >= len(x.cells) {
			panic(api.TrapIndex)
		}
		return &x.cells[n]
	}
	switch i.Op {
	case api.OpPush:
		push(w.m.Ints[i.A])
	case api.OpNull:
		push(nil)
	case api.OpGet:
		push(locals[i.A])
	case api.OpPut:
		locals[i.A] = pop()
	case api.OpPop:
		pop()
	case api.OpDup:
		push(ops[len(ops)-1])
	case api.OpIsNull:
		push(yes(pop() == nil))
	case api.OpSame:
		push(yes(pop() == pop()))
	case api.OpNew:
		w.made = append(w.made, &item{i.A, empty(class.Fields(w.m, i.A))})
		push(w.made[len(w.made)-1])
	case api.OpArr:
		n := int(pop().(int32))
		if n < 0 || n > i.A {
			panic(api.TrapSize)
		}
		w.made = append(w.made, &item{-1, many(n, any(int32(0)))})
		push(w.made[len(w.made)-1])
	case api.OpLoad:
		n := int(pop().(int32))
		push(*cell(pop(), n))
	case api.OpStore:
		v := pop()
		n := int(pop().(int32))
		*cell(pop(), n) = v
	case api.OpLen:
		push(int32(len(there(pop()).cells)))
	case api.OpField:
		push(*cell(pop(), i.B))
	case api.OpSetField:
		v := pop()
		*cell(pop(), i.B) = v
	case api.OpStatic:
		push(w.statics[i.A])
	case api.OpSetStatic:
		w.statics[i.A] = pop()
	case api.OpCast:
		if v := ops[len(ops)-1]; v != nil && !w.is(v.(*item), i.A) {
			panic(api.TrapCast)
		}
	default:
		b, a := pop().(int32), pop().(int32)
		n, ok := num.Do(i.Op, a, b)
		if !ok {
			panic(api.TrapDiv)
		}
		push(n)
	}
	return ops
}

// values are some as they ought to be.
func (w *words) values(list []any) []free.Value {
	var out []free.Value
	for _, v := range list {
		switch x := v.(type) {
		case int32:
			out = append(out, of(x))
		case *item:
			if r := slices.Index(w.made, x) + 1; x.class < 0 {
				out = append(out, arr(r))
			} else {
				out = append(out, obj(x.class, r))
			}
		default:
			out = append(out, none())
		}
	}
	return out
}

// wantSame holds a world to having what words have.
func wantSame(t *testing.T, w *free.World, is *words) {
	t.Helper()
	var things []free.Thing
	for _, x := range is.made {
		things = append(things, thing(x.class, is.values(x.cells)...))
	}
	wantKept(t, w, is.values(is.statics), things...)
	wantLive(t, w, is.live...)
}

// Methods of a thrown applet: three entries, of which the last one and back call
// each other; slots; and one that all others may call.
const (
	entry = iota
	silent
	deepest
	back
	slotOne  // slot 0 of 0 and 2
	slotTwo  // slot 1 of 0 and 1
	slotOwn  // slot 0 of 1
	slotLow  // slot 1 of 2
	slotMore // slot 2 of 2
	inner
)

// maker throws code of a method, all of whose operands fit.
type maker struct {
	throw  func(int) int
	m      *api.Image
	f      int
	code   []api.Instr
	nested int // in branches and rings
	ringed int // in rings
}

// blank is an applet whose methods have no code yet.
func blank(throw func(int) int) api.Image {
	some := func(n int) []api.Type {
		var list []api.Type
		for range n {
			list = append(list, types(number, number, numbers, ref(throw(4)))[throw(4)])
		}
		return list
	}
	m := api.Image{
		Classes: []api.Class{
			{Super: -1, Fields: append(types(number, ref(1)), some(throw(2))...), Slots: []int{slotOne, slotTwo}},
			{Super: 0, Fields: types(numbers), Slots: []int{slotOwn, slotTwo}},
			{Super: 0, Fields: some(throw(3)), Slots: []int{slotOne, slotLow, slotMore}},
			{Super: -1, Fields: some(throw(3))},
		},
		Statics: append(types(numbers, ref(0), number, ref(2)), some(throw(4))...),
		Ints:    []int32{0, 1, 2, 3, 5, -1, 9, -7, least, most},
		Methods: []api.Method{
			method(number, types(number, number), nil),
			method(nothing, nil, nil),
			method(number, types(number), nil),
			method(ref(0), types(number), nil),
			method(number, types(ref(0), number), nil),
			method(ref(0), types(ref(0)), nil),
			method(number, types(ref(1), number), nil),
			method(ref(0), types(ref(2)), nil),
			method(nothing, types(ref(2), numbers, number), nil),
			method(numbers, types(numbers, number), nil),
		},
		Entries: []int{entry, silent, deepest},
	}
	for f := range m.Methods {
		m.Methods[f].Locals = some(1 + throw(4))
	}
	m.Methods[deepest].Depth, m.Methods[back].Depth = 1+throw(3), 1+throw(3)
	return m
}

func (x *maker) add(list ...int) { x.code = append(x.code, op(list...)) }

// fitting are those of a list that fit where a type is wanted.
func (x *maker) fitting(list []api.Type, want api.Type) []int {
	var out []int
	for n, t := range list {
		if kind.Sub(x.m.Classes, t, want) {
			out = append(out, n)
		}
	}
	return out
}

// locals are all of its method's.
func (x *maker) locals() []api.Type {
	f := x.m.Methods[x.f]
	return slices.Concat(f.Args, f.Locals)
}

// pick is one out of a list that is not empty.
func (x *maker) pick(list []int) int { return list[x.throw(len(list))] }

// callees are the methods that its method may call here, by their results.
func (x *maker) callees(want api.Type) []int {
	var out []int
	for g := range x.m.Methods {
		may := g == inner || g == deepest || g == back
		switch {
		case x.f == inner:
			may = false
		case x.f >= slotOne:
			may = g == inner
		case x.f < deepest && x.ringed == 0:
			may = g >= deepest
		}
		if may && x.gives(g, want) {
			out = append(out, g)
		}
	}
	return out
}

// gives: does a method's result fit where a type, or none, is wanted?
func (x *maker) gives(g int, want api.Type) bool {
	ret := x.m.Methods[g].Ret
	return ret == want || kind.Sub(x.m.Classes, ret, want)
}

// makes: may its method make things here? In rings, be it of calls, none can say
// how many.
func (x *maker) makes() bool {
	return x.ringed == 0 && x.f != deepest && x.f != back && x.f != inner
}

// poor: is there hardly anything that leads somewhere? It is so mostly where
// nothing is made.
func (x *maker) poor() bool {
	return x.ringed == 0 && !x.makes() && x.throw(8) > 0
}

// expr leaves a value that fits where a type is wanted.
func (x *maker) expr(want api.Type, deep int) {
	locals := x.fitting(x.locals(), want)
	statics := x.fitting(x.m.Statics, want)
	if deep > 0 {
		switch x.throw(9) {
		case 0, 1:
			if list := x.callees(want); len(list) > 0 {
				x.call(x.pick(list), deep)
				return
			}
		case 2:
			if x.virt(want, deep) {
				return
			}
		case 3, 4:
			if x.field(want, deep) {
				return
			}
		case 5, 6, 7:
			x.made(want, deep)
			return
		}
	}
	switch {
	case len(statics) > 0 && x.throw(3) == 0:
		x.add(api.OpStatic, x.pick(statics))
	case len(locals) > 0 && x.throw(4) > 0:
		x.add(api.OpGet, x.pick(locals))
	case want == number:
		x.add(api.OpPush, x.throw(len(x.m.Ints)))
	case x.throw(8) == 0:
		x.add(api.OpNull)
	default:
		x.made(want, 0)
	}
}

// reference is any type of one; an object's alone, if that is asked for.
func (x *maker) reference(object bool) api.Type {
	if c := x.throw(5); c < 4 {
		return ref(c)
	}
	if object {
		return ref(x.throw(4))
	}
	return numbers
}

// made leaves a value that an instruction makes of others, or of none.
func (x *maker) made(want api.Type, deep int) {
	deep--
	switch {
	case want == number && deep < 0:
		x.add(api.OpPush, x.throw(len(x.m.Ints)))
	case want == number:
		x.number(deep)
	case want == numbers && x.makes():
		x.add(api.OpPush, 1+x.throw(4))
		if deep >= 0 && x.throw(4) == 0 {
			x.expr(number, deep)
			x.add(api.OpAnd)
		}
		x.add(api.OpArr, 2+x.throw(6))
	case want != numbers && deep >= 0 && x.throw(3) == 0:
		x.expr(x.reference(true), deep)
		x.add(api.OpCast, x.below(want.N))
	case want != numbers && x.makes():
		x.add(api.OpNew, x.below(want.N))
	default:
		x.add(api.OpNull)
	}
}

// below is a class that is below another one.
func (x *maker) below(c int) int { return x.pick(class.Below(*x.m, c)) }

// number leaves one that an instruction makes of others.
func (x *maker) number(deep int) {
	which := x.throw(8)
	if x.poor() {
		which = 7
	}
	switch which {
	case 0:
		x.expr(x.reference(false), deep)
		x.add(api.OpIsNull)
	case 1:
		x.expr(x.reference(false), deep)
		if x.throw(3) == 0 {
			x.add(api.OpDup)
		} else {
			x.expr(x.reference(false), deep)
		}
		x.add(api.OpSame)
	case 2:
		x.base(numbers, deep)
		x.expr(number, 0)
		x.add(api.OpLoad)
	case 3:
		x.base(numbers, deep)
		x.add(api.OpLen)
	default:
		x.expr(number, deep)
		x.expr(number, deep)
		x.add(api.OpAdd + x.throw(api.OpEqual-api.OpAdd+1))
	}
}

// base leaves what something is done to: mostly it leads somewhere.
func (x *maker) base(want api.Type, deep int) {
	locals := x.fitting(x.m.Methods[x.f].Locals, want)
	switch {
	case x.throw(6) == 0:
		x.expr(want, deep)
	case len(locals) > 0 && x.throw(3) > 0:
		x.add(api.OpGet, len(x.m.Methods[x.f].Args)+x.pick(locals))
	case want == numbers && x.throw(2) == 0:
		x.add(api.OpStatic)
	default:
		x.made(want, 0)
	}
}

// field leaves a field's value, if there is one that fits.
func (x *maker) field(want api.Type, deep int) bool {
	c := x.throw(4)
	list := x.fitting(class.Fields(*x.m, c), want)
	if len(list) == 0 || x.poor() {
		return false
	}
	x.base(ref(c), deep-1)
	x.add(api.OpField, c, x.pick(list))
	return true
}

// call leaves what a method comes to.
func (x *maker) call(g, deep int) {
	for _, t := range x.m.Methods[g].Args {
		x.expr(t, deep-1)
	}
	x.add(api.OpCall, g)
}

// virt leaves what a slot comes to, if there is one that fits.
func (x *maker) virt(want api.Type, deep int) bool {
	c := x.throw(3)
	n := x.throw(len(x.m.Classes[c].Slots))
	g := x.m.Methods[x.m.Classes[c].Slots[n]]
	if x.f >= deepest || x.ringed > 0 || !x.gives(x.m.Classes[c].Slots[n], want) {
		return false
	}
	x.base(ref(c), deep-1)
	for _, t := range g.Args[1:] {
		x.expr(t, deep-1)
	}
	x.add(api.OpVirt, c, n)
	return true
}

// place puts a value somewhere.
func (x *maker) place(deep int) {
	which := x.throw(6)
	if x.poor() {
		which = 5
	}
	switch which {
	case 0:
		n := x.throw(len(x.m.Statics))
		x.expr(x.m.Statics[n], deep)
		x.add(api.OpSetStatic, n)
	case 1:
		x.base(numbers, deep)
		x.expr(number, 0)
		x.expr(number, deep-1)
		x.add(api.OpStore)
	case 2:
		c := x.throw(4)
		list := class.Fields(*x.m, c)
		if len(list) == 0 {
			return
		}
		n := x.throw(len(list))
		x.base(ref(c), deep)
		x.expr(list[n], deep-1)
		x.add(api.OpSetField, c, n)
	default:
		list := x.locals()
		n := x.throw(len(list))
		x.expr(list[n], deep)
		x.add(api.OpPut, n)
	}
}

// begin lets most locals lead somewhere.
func (x *maker) begin() {
	f := x.m.Methods[x.f]
	for n, want := range f.Locals {
		if kind.IsRef(want) && x.makes() && x.throw(6) > 0 {
			x.made(want, 0)
			x.add(api.OpPut, len(f.Args)+n)
		}
	}
}

// body leaves nothing, but may end the method.
func (x *maker) body(parts int) {
	for range parts {
		switch k := x.throw(12); {
		case k == 0:
			x.expr(x.reference(false), 2)
			x.add(api.OpPop)
		case k == 1:
			if list := x.callees(nothing); len(list) > 0 {
				x.call(x.pick(list), 2)
			}
		case k == 2:
			x.virt(nothing, 2)
		case k < 5 && x.nested < 2:
			x.branch()
		case k == 5 && x.nested < 2:
			x.ring()
		case k == 6 && x.nested > 0:
			x.end()
		default:
			x.place(2)
		}
	}
}

// branch does one of two things, by a number.
func (x *maker) branch() {
	x.nested++
	x.expr(number, 1)
	zero := len(x.code)
	x.add(api.OpZero)
	x.body(1 + x.throw(2))
	over := len(x.code)
	x.add(api.OpJump)
	x.code[zero].A = len(x.code)
	x.body(x.throw(2))
	x.code[over].A = len(x.code)
	x.nested--
}

// ring does something till a number is 0, which may be never.
func (x *maker) ring() {
	list := x.fitting(x.locals(), number)
	if len(list) == 0 {
		return
	}
	n := x.pick(list)
	x.nested++
	if x.throw(3) > 0 {
		x.add(api.OpPush, x.throw(5))
		x.add(api.OpPut, n)
	}
	start := len(x.code)
	x.add(api.OpGet, n)
	zero := len(x.code)
	x.add(api.OpZero)
	x.add(api.OpGet, n)
	x.add(api.OpPush, 1)
	x.add(api.OpSub)
	x.add(api.OpPut, n)
	x.ringed++
	x.body(1)
	x.ringed--
	x.add(api.OpJump, start)
	x.code[zero].A = len(x.code)
	x.nested--
}

// end ends the method.
func (x *maker) end() {
	if ret := x.m.Methods[x.f].Ret; ret != nothing {
		x.expr(ret, 2)
	}
	x.add(api.OpRet)
}

// thrown is an applet that chapter 16 takes in; false, if it has not become one.
func thrown(throw func(int) int) (api.Image, bool) {
	m := blank(throw)
	for f := range m.Methods {
		x := maker{throw: throw, m: &m, f: f}
		x.begin()
		x.body(1 + throw(4))
		x.end()
		m.Methods[f].Code = x.code
	}
	m, e := said(m)
	return m, e == api.OK
}

// moment is what there is ahead of a step.
type moment struct {
	live             []int
	f, pc            int
	locals, operands []free.Value
}

// wantSteps holds a run, step by step, to what words come to, and to types.
func wantSteps(t *testing.T, w *free.World, is *words, maps [][]api.Shape, f int, args []int32, fuel int) (end int) {
	t.Helper()
	var list []moment
	is.look = func(f, pc int, locals, operands []any) {
		list = append(list, moment{slices.Clone(is.live), f, pc, is.values(locals), is.values(operands)})
	}
	end, value, steps := is.run(f, args, fuel)
	is.look = nil
	wantBegun(t, w, f, args...)
	got := api.Going
	for k, at := range list {
		wantLive(t, w, at.live...)
		wantTop(t, w, at.f, at.pc, at.locals, at.operands)
		wantTyped(t, is.m, maps, at)
		if k < steps {
			got = w.Step()
		}
		if k < steps-1 && got != api.Going {
			t.Errorf("Step() = %d as the %d. one of %d", got, k, steps)
		}
	}
	if end != api.Spent && got != end || end == api.Spent && got != api.Going || w.Value() != value {
		t.Errorf("%d %d behind all steps, want %d %d", got, w.Value(), end, value)
	}
	return end
}

// wantTyped holds values to the types that were found for them.
func wantTyped(t *testing.T, m api.Image, maps [][]api.Shape, at moment) {
	t.Helper()
	s := maps[at.f][at.pc]
	fits := func(v free.Value, want api.Type) bool { return kind.Sub(m.Classes, v.T, want) }
	if !s.Seen || !slices.EqualFunc(at.operands, s.Stack, fits) {
		t.Errorf("operands %v at %d of %d, found was %v", at.operands, at.pc, at.f, s)
	}
	for n, v := range at.locals {
		if want := class.Local(m.Methods[at.f], n); !fits(v, want) {
			t.Errorf("local %d is %v in %d, and its type %v", n, v, at.f, want)
		}
	}
}

// P18.1, P18.2: mixed applets, run many times, to the chapter's words: what a
// run comes to, what is under way, what is kept.
func TestWords(t *testing.T) {
	throw := dice(81)
	applets := 0
	var ends [api.Spent + 1]int
	met := map[int]int{}
	for range 6000 {
		m, ok := thrown(throw)
		if !ok {
			continue
		}
		applets++
		maps, _, _, _ := typer.Check(m)
		w, is := free.New(m), wordsOf(m)
		for range 12 {
			f := m.Entries[throw(len(m.Entries))]
			args := make([]int32, len(m.Methods[f].Args))
			for k := range args {
				args[k] = []int32{-1, 0, 1, 2, 3, 5, 40, least, most}[throw(9)]
			}
			fuel := []int{400, 400, 400, throw(60), throw(400)}[throw(5)]
			if throw(3) == 0 {
				ends[wantSteps(t, w, is, maps, f, args, fuel)]++
			} else {
				end, value, steps := is.run(f, args, fuel)
				wantRun(t, w, f, args, fuel, end, value, steps)
				ends[end]++
			}
			wantSame(t, w, is)
			if t.Failed() {
				t.Fatalf("method %d of %v, fuel %d, of %v", f, args, fuel, m)
			}
		}
		for o, n := range is.met {
			met[o] += n
		}
	}
	if applets < 4000 {
		t.Errorf("%d applets were taken in", applets)
	}
	for o := api.OpPush; o <= api.OpCast; o++ {
		if met[o] < 500 {
			t.Errorf("%d was met %d times", o, met[o])
		}
	}
	for end := api.Done; end <= api.Spent; end++ {
		if ends[end] < 100 {
			t.Errorf("end %d was met %d times", end, ends[end])
		}
	}
}
