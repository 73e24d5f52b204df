package sane_test

import (
	"fmt"
	"math"
	"slices"
	"testing"

	"plimsoll/api"
	"plimsoll/image"
	"plimsoll/sane"
)

var (
	number  = api.Type{Kind: api.Int}
	numbers = api.Type{Kind: api.Arr}
	nothing = api.Type{Kind: api.Void}
)

// of is a type by its kind and number.
func of(kind, n int) api.Type { return api.Type{Kind: kind, N: n} }

func ref(n int) api.Type { return of(api.Ref, n) }

// op is an instruction by its numbers, of which the last ones may lack.
func op(list ...int) api.Instr {
	list = append(list, 0, 0)
	return api.Instr{Op: list[0], A: list[1], B: list[2]}
}

// many is a list of so many like one.
func many[T any](n int, x T) []T { return slices.Repeat([]T{x}, n) }

// method is one of some code, with as many Phi.
func method(ret api.Type, args, locals []api.Type, code ...api.Instr) api.Method {
	return api.Method{Args: args, Locals: locals, Ret: ret, Code: code, Phi: make([]int, len(code))}
}

// types is a list of them.
func types(list ...api.Type) []api.Type { return list }

// everything is one of each instruction; those that name something name the
// last one of the sample that there is.
func everything() []api.Instr {
	var code []api.Instr
	for k := api.OpPush; k <= api.OpCast; k++ {
		code = append(code, op(k))
	}
	for _, i := range []api.Instr{
		op(api.OpPush, 2), op(api.OpGet, 2), op(api.OpPut, 2), op(api.OpJump, 33), op(api.OpZero, 33),
		op(api.OpNew, 3), op(api.OpArr, 255), op(api.OpField, 3, 4), op(api.OpSetField, 1, 3), op(api.OpStatic, 1),
		op(api.OpSetStatic, 1), op(api.OpCall, 5), op(api.OpVirt, 3, 2), op(api.OpCast, 3),
	} {
		code[i.Op-1] = i
	}
	return code
}

// sample is sane, and has something of all that may be wrong. Class 3 is below
// 1, that is below 0; 2 is alone.
func sample() api.Image {
	return api.Image{
		Classes: []api.Class{
			{Super: -1, Fields: types(number, ref(2)), Slots: []int{2}},
			{Super: 0, Fields: types(numbers, ref(1)), Slots: []int{3, 4}},
			{Super: -1},
			{Super: 1, Fields: types(number), Slots: []int{2, 4, 5}},
		},
		Statics: types(numbers, ref(3)),
		Ints:    []int32{7, -7, 0},
		Methods: []api.Method{
			method(number, types(number), types(ref(1), numbers), everything()...),
			method(nothing, nil, nil, op(api.OpRet)),
			method(number, types(ref(0), number, numbers), types(number), op(api.OpGet, 3), op(api.OpRet)),
			method(number, types(ref(1), number, numbers), nil, op(api.OpGet, 1), op(api.OpRet)),
			method(nothing, types(ref(1)), types(ref(2)), op(api.OpRet)),
			method(ref(2), types(ref(3), number), nil, op(api.OpNew, 2), op(api.OpRet)),
		},
		Entries: []int{0, 1, 0},
		Stack:   40,
		Heap:    300,
	}
}

// upward is a class, what stands above it, and so on.
func upward(m api.Image, c int) []int {
	if c < 0 || c >= len(m.Classes) {
		return nil
	}
	way := []int{c}
	if s := m.Classes[c].Super; s < c {
		way = append(way, upward(m, s)...)
	}
	return way
}

// fieldsOf is how many fields a class has, with those of all above it.
func fieldsOf(m api.Image, c int) int {
	sum := 0
	for _, x := range upward(m, c) {
		sum += len(m.Classes[x].Fields)
	}
	return sum
}

// there: is it a type of something?
func there(m api.Image, t api.Type) bool {
	return t == number || t == numbers || t.Kind == api.Ref && 0 <= t.N && t.N < len(m.Classes)
}

// The clauses of P6.1, each by a word.
const (
	aType   = "type"
	aResult = "result"
	aSuper  = "super"
	aField  = "fields"
	aLack   = "lack of slots"
	aSlot   = "slot"
	aUnlike = "unlike slots"
	aCode   = "code"
	aPhi    = "phi"
	aLocal  = "locals"
	anInstr = "instruction"
	anEntry = "entry"
)

// wrong are the clauses that an image that fits breaks, by their words, each
// for itself.
func wrong(m api.Image) []string {
	var all []string
	tell := func(what string, is bool) {
		if is && !slices.Contains(all, what) {
			all = append(all, what)
		}
	}
	missing := func(list []api.Type) {
		for _, t := range list {
			tell(aType, !there(m, t))
		}
	}
	missing(m.Statics)
	for c, x := range m.Classes {
		missing(x.Fields)
		tell(aSuper, x.Super >= c)
		tell(aField, fieldsOf(m, c) > 8)
		wrongSlots(m, c, tell)
	}
	for _, x := range m.Methods {
		missing(x.Args)
		missing(x.Locals)
		tell(aResult, !there(m, x.Ret) && x.Ret != nothing)
		tell(aCode, len(x.Code) == 0)
		tell(aPhi, len(x.Phi) != len(x.Code))
		tell(aLocal, len(x.Args)+len(x.Locals) > 8)
		for _, i := range x.Code {
			tell(anInstr, !names(m, x, i))
		}
	}
	for _, n := range m.Entries {
		tell(anEntry, !enters(m, n))
	}
	return all
}

// wrongSlots tells of a class's slots. Where it has a Super that there is not,
// or one that has what is no method, what is wrong is told elsewhere.
func wrongSlots(m api.Image, c int, tell func(string, bool)) {
	var above []int
	if way := upward(m, c); len(way) > 1 {
		above = m.Classes[way[1]].Slots
	}
	slots := m.Classes[c].Slots
	tell(aLack, len(above) > len(slots))
	for n, f := range slots {
		if f >= len(m.Methods) || len(m.Methods[f].Args) < 1 {
			tell(aSlot, true)
			continue
		}
		first := m.Methods[f].Args[0]
		tell(aSlot, first.Kind != api.Ref || !slices.Contains(upward(m, c), first.N))
		if n < len(above) && above[n] < len(m.Methods) && len(m.Methods[above[n]].Args) > 0 {
			tell(aUnlike, !alike(m.Methods[f], m.Methods[above[n]]))
		}
	}
}

// alike: have two the same result, and, but for the first, the same arguments?
func alike(a, b api.Method) bool {
	same := a.Ret == b.Ret && len(a.Args) == len(b.Args)
	for k := 1; same && k < len(a.Args); k++ {
		same = a.Args[k] == b.Args[k]
	}
	return same
}

// names: is there what an instruction names?
func names(m api.Image, x api.Method, i api.Instr) bool {
	a, b := math.MaxInt, math.MaxInt // how many there are
	switch i.Op {
	case 1:
		a = len(m.Ints)
	case 3, 4:
		a = len(x.Args) + len(x.Locals)
	case 18, 19:
		a = len(x.Code)
	case 22, 34:
		a = len(m.Classes)
	case 27, 28:
		a, b = len(m.Classes), fieldsOf(m, i.A)
	case 29, 30:
		a = len(m.Statics)
	case 31:
		a = len(m.Methods)
	case 32:
		a = len(m.Classes)
		if i.A < a {
			b = len(m.Classes[i.A].Slots)
		}
	}
	return i.A < a && i.B < b
}

// enters: is it a method of numbers alone?
func enters(m api.Image, n int) bool {
	if n >= len(m.Methods) {
		return false
	}
	x := m.Methods[n]
	others := slices.ContainsFunc(x.Args, func(t api.Type) bool { return t != number })
	return !others && (x.Ret == number || x.Ret == nothing)
}

// wanted is what Check has to answer.
func wanted(m api.Image) api.Errno {
	if !image.Fits(m) {
		return api.ErrImage
	}
	if len(wrong(m)) > 0 {
		return api.ErrName
	}
	return api.OK
}

// edit is a change of an image.
type edit struct {
	name string
	do   func(m *api.Image)
}

// edited is a copy of an image, changed.
func edited(m api.Image, list ...edit) api.Image {
	m = image.Copy(m)
	for _, e := range list {
		e.do(&m)
	}
	return m
}

// wantCheck holds Check to an error, twice.
func wantCheck(t *testing.T, name string, m api.Image, want api.Errno) {
	t.Helper()
	got, again := sane.Check(m), sane.Check(m)
	if got != want || again != want {
		t.Errorf("%s: Check = %d, then %d, want %d, of %v", name, got, again, want, m)
	}
}

// P6.1: the sample, nothing at all, and all without something.
func TestSane(t *testing.T) {
	wantCheck(t, "sample", sample(), api.OK)
	wantCheck(t, "nothing", api.Image{}, api.OK)
	wantCheck(t, "Stack, Heap", api.Image{Stack: 4096, Heap: 4096}, api.OK)
	wantCheck(t, "no entries", edited(sample(), edit{"", func(m *api.Image) { m.Entries = nil }}), api.OK)
	wantCheck(t, "a class", api.Image{Classes: []api.Class{{Super: -1}}}, api.OK)
	wantCheck(t, "a method", api.Image{Methods: []api.Method{method(nothing, nil, nil, op(api.OpRet))}}, api.OK)
	wantCheck(t, "statics", api.Image{Statics: types(number, numbers)}, api.OK)
	wantCheck(t, "ints", api.Image{Ints: []int32{math.MinInt32, 0, math.MaxInt32}}, api.OK)
}

// P6.1: as many of all as there may be.
func TestSaneGreatest(t *testing.T) {
	var m api.Image
	for c := range 8 {
		m.Classes = append(m.Classes, api.Class{Super: c - 1, Fields: types(ref(7 - c)), Slots: []int{0, 1, 2, 3}})
	}
	m.Statics = many(8, ref(7))
	m.Ints = many(16, int32(5))
	for range 11 {
		x := method(ref(7), many(4, ref(0)), many(4, numbers), many(64, op(api.OpField, 7, 7))...)
		x.Depth, x.Pot, x.Phi = 8, 4096, many(64, 4096)
		m.Methods = append(m.Methods, x)
	}
	m.Methods = append(m.Methods, method(number, many(4, number), many(4, ref(7)), many(64, op(api.OpJump, 63))...))
	m.Entries = many(12, 11)
	m.Stack, m.Heap = 4096, 4096
	wantCheck(t, "greatest", m, api.OK)
}

// changes are edits by each of which the sample is sane still.
func changes() []edit {
	return []edit{
		{"a class of its own kind", func(m *api.Image) { m.Classes[2].Fields = types(ref(2)) }},
		{"later classes", func(m *api.Image) { m.Classes[0].Fields[1] = ref(3) }},
		{"a static of a class", func(m *api.Image) { m.Statics[1] = ref(0) }},
		{"a static of numbers", func(m *api.Image) { m.Statics[1] = numbers }},
		{"a result of numbers", func(m *api.Image) { m.Methods[4].Ret = numbers }},
		{"below the one ahead", func(m *api.Image) { m.Classes[2].Super, m.Classes[2].Slots = 1, []int{3, 4} }},
		{"eight fields, three above", func(m *api.Image) { m.Classes[3].Fields = many(4, number) }},
		{"eight fields of one", func(m *api.Image) { m.Classes[2].Fields = many(8, numbers) }},
		{"more slots than Super", func(m *api.Image) { m.Classes[3].Slots = []int{2, 4, 5, 3} }},
		{"as many slots as Super", func(m *api.Image) { m.Methods[0].Code[31].B, m.Classes[3].Slots = 1, []int{2, 4} }},
		{"a slot of Super itself", func(m *api.Image) { m.Classes[1].Slots[0] = 2 }},
		{"a slot twice", func(m *api.Image) {
			m.Classes[0].Slots, m.Classes[1].Slots, m.Classes[3].Slots = []int{2, 2}, []int{3, 3}, []int{2, 3, 5}
		}},
		{"alike but for the first", func(m *api.Image) { m.Methods[3].Args[0] = ref(0) }},
		{"a new slot need not be alike", func(m *api.Image) { m.Classes[1].Slots[1] = 3; m.Classes[3].Slots[1] = 2 }},
		{"Phi of any number", func(m *api.Image) { m.Methods[1].Phi[0] = 4096 }},
		{"Depth and Pot", func(m *api.Image) { m.Methods[1].Depth, m.Methods[1].Pot = 8, 4096 }},
		{"eight locals", func(m *api.Image) { m.Methods[0].Locals = many(7, number) }},
		{"eight locals, no arguments", func(m *api.Image) { m.Methods[1].Locals = many(8, ref(2)) }},
		{"four and four", func(m *api.Image) { m.Methods[4].Args, m.Methods[4].Locals = many(4, ref(1)), many(4, number) }},
		{"a call of itself", func(m *api.Image) { m.Methods[0].Code[30].A = 0 }},
		{"a jump to itself", func(m *api.Image) { m.Methods[0].Code[17].A = 17 }},
		{"an array of none", func(m *api.Image) { m.Methods[0].Code[22].A = 0 }},
		{"types are not looked at", func(m *api.Image) { m.Methods[1].Code[0] = op(api.OpAdd) }},
		{"an entry of four numbers", func(m *api.Image) { m.Methods[1].Args = many(4, number) }},
		{"an entry with a number", func(m *api.Image) { m.Methods[1].Ret = number }},
		{"no slots where none are above", func(m *api.Image) { m.Classes[0].Slots = nil }},
	}
}

// P6.1: what is not wrong.
func TestSaneChanged(t *testing.T) {
	for _, e := range changes() {
		wantCheck(t, e.name, edited(sample(), e), api.OK)
	}
}

// fault is an edit that breaks one clause alone.
type fault struct {
	clause string
	edit
}

// typeFaults are those of types: each place of one, with each that is none.
func typeFaults() []fault {
	var all []fault
	for _, bad := range []api.Type{{}, of(api.Null, 0), nothing, ref(4), ref(7)} {
		all = append(all,
			fault{aType, edit{"field", func(m *api.Image) { m.Classes[0].Fields[1] = bad }}},
			fault{aType, edit{"last field", func(m *api.Image) { m.Classes[3].Fields[0] = bad }}},
			fault{aType, edit{"static", func(m *api.Image) { m.Statics[0] = bad }}},
			fault{aType, edit{"last static", func(m *api.Image) { m.Statics[1] = bad }}},
			fault{aType, edit{"argument", func(m *api.Image) { m.Methods[5].Args[1] = bad }}},
			fault{aType, edit{"local", func(m *api.Image) { m.Methods[0].Locals[0] = bad }}},
			fault{aType, edit{"last local", func(m *api.Image) { m.Methods[4].Locals[0] = bad }}})
		if bad != nothing {
			all = append(all, fault{aResult, edit{"result", func(m *api.Image) { m.Methods[5].Ret = bad }}})
		}
	}
	return all
}

// classFaults are those of classes.
func classFaults() []fault {
	return []fault{
		{aSuper, edit{"its own", func(m *api.Image) { m.Classes[2].Super = 2 }}},
		{aSuper, edit{"a later one", func(m *api.Image) { m.Classes[2].Super = 3 }}},
		{aSuper, edit{"none that there is", func(m *api.Image) { m.Classes[2].Super = 4 }}},
		{aSuper, edit{"the greatest", func(m *api.Image) { m.Classes[2].Super = 7 }}},
		{aSuper, edit{"the first by itself", func(m *api.Image) { m.Classes[0].Super = 0 }}},
		{aField, edit{"of the last alone", func(m *api.Image) { m.Classes[3].Fields = many(5, number) }}},
		{aField, edit{"with one above", func(m *api.Image) { m.Classes[1].Fields = many(6, number) }}},
		{aField, edit{"all full", func(m *api.Image) { m.Classes[3].Fields = many(8, number) }}},
		{aField, edit{"above", func(m *api.Image) { m.Classes[0].Fields = many(6, number) }}},
		{aLack, edit{"none of its own", func(m *api.Image) { m.Classes[2].Super = 0 }}},
		{aLack, edit{"one less", func(m *api.Image) { m.Classes[1].Slots, m.Classes[3].Slots = []int{3, 4, 4, 4}, []int{2, 4, 4} }}},
		{aSlot, edit{"no method", func(m *api.Image) { m.Classes[3].Slots[2] = 6 }}},
		{aSlot, edit{"no method by far", func(m *api.Image) { m.Classes[3].Slots[2] = 11 }}},
		{aSlot, edit{"no method, no Super", func(m *api.Image) { m.Classes[2].Slots = []int{6} }}},
		{aSlot, edit{"without arguments", func(m *api.Image) { m.Classes[3].Slots[2] = 1 }}},
		{aSlot, edit{"a number first", func(m *api.Image) { m.Classes[3].Slots[2] = 0 }}},
		{aSlot, edit{"an array first", func(m *api.Image) { m.Methods[5].Args[0] = numbers }}},
		{aSlot, edit{"a class beside it", func(m *api.Image) { m.Methods[5].Args[0] = ref(2) }}},
		{aSlot, edit{"of a class below it", func(m *api.Image) { m.Classes[1].Slots = []int{3, 4, 5} }}},
		{aSlot, edit{"below it, where above's is right", func(m *api.Image) { m.Classes[0].Slots[0] = 3 }}},
		{aUnlike, edit{"the result", func(m *api.Image) { m.Methods[3].Ret = nothing }}},
		{aUnlike, edit{"a result of numbers", func(m *api.Image) { m.Methods[3].Ret = numbers }}},
		{aUnlike, edit{"a result that would fit", func(m *api.Image) { m.Methods[2].Ret, m.Methods[3].Ret = ref(0), ref(1) }}},
		{aUnlike, edit{"fewer arguments", func(m *api.Image) { m.Methods[3].Args = m.Methods[3].Args[:2] }}},
		{aUnlike, edit{"more arguments", func(m *api.Image) { m.Methods[3].Args = append(m.Methods[3].Args, number) }}},
		{aUnlike, edit{"the second argument", func(m *api.Image) { m.Methods[3].Args[1] = numbers }}},
		{aUnlike, edit{"the last argument", func(m *api.Image) { m.Methods[3].Args[2] = number }}},
		{aUnlike, edit{"arguments that would fit", func(m *api.Image) { m.Methods[2].Args[2], m.Methods[3].Args[2] = ref(1), ref(0) }}},
		{aUnlike, edit{"of the last slot of Super", func(m *api.Image) { m.Classes[3].Slots[1] = 5 }}},
		{aUnlike, edit{"of the last class", func(m *api.Image) { m.Classes[3].Slots[0] = 5 }}},
	}
}

// methodFaults are those of methods and entries.
func methodFaults() []fault {
	return []fault{
		{aCode, edit{"none", func(m *api.Image) { m.Methods[1].Code, m.Methods[1].Phi = nil, nil }}},
		{aCode, edit{"none of the last", func(m *api.Image) { m.Methods[5].Code, m.Methods[5].Phi = nil, []int{} }}},
		{aPhi, edit{"none", func(m *api.Image) { m.Methods[1].Phi = nil }}},
		{aPhi, edit{"one less", func(m *api.Image) { m.Methods[0].Phi = make([]int, 33) }}},
		{aPhi, edit{"one more", func(m *api.Image) { m.Methods[0].Phi = make([]int, 35) }}},
		{aPhi, edit{"as many as there may be", func(m *api.Image) { m.Methods[5].Phi = make([]int, 64) }}},
		{aLocal, edit{"one and eight", func(m *api.Image) { m.Methods[0].Locals = many(8, number) }}},
		{aLocal, edit{"four and five", func(m *api.Image) { m.Methods[1].Args, m.Methods[1].Locals = many(4, number), many(5, number) }}},
		{aLocal, edit{"as many as there may be", func(m *api.Image) { m.Methods[1].Args, m.Methods[1].Locals = many(4, number), many(8, number) }}},
		{anEntry, edit{"no method", func(m *api.Image) { m.Entries[1] = 6 }}},
		{anEntry, edit{"no method by far", func(m *api.Image) { m.Entries[2] = 11 }}},
		{anEntry, edit{"a Ref first", func(m *api.Image) { m.Entries[0] = 2 }}},
		{anEntry, edit{"a Ref alone", func(m *api.Image) { m.Entries[2] = 4 }}},
		{anEntry, edit{"an Arr last", func(m *api.Image) { m.Methods[1].Args = types(number, number, numbers) }}},
		{anEntry, edit{"a result of numbers", func(m *api.Image) { m.Methods[1].Ret = numbers }}},
		{anEntry, edit{"a Ref as the result", func(m *api.Image) { m.Methods[1].Ret = ref(0) }}},
	}
}

// P6.1: each clause, each broken alone.
func TestWrong(t *testing.T) {
	met := map[string]int{}
	for _, f := range slices.Concat(typeFaults(), classFaults(), methodFaults()) {
		m := edited(sample(), f.edit)
		name := f.clause + ": " + f.name
		if got := wrong(m); !slices.Equal(got, []string{f.clause}) {
			t.Errorf("%s: the test breaks %v", name, got)
		}
		wantCheck(t, name, m, api.ErrName)
		met[f.clause]++
	}
	if len(met) != 11 { // instructions have a test of their own
		t.Errorf("clauses that are broken: %v", met)
	}
}

// P6.1: each instruction, with all numbers that it may have, in methods with
// different locals and code.
func TestInstructions(t *testing.T) {
	has := map[int]int{1: 1, 3: 1, 4: 1, 18: 1, 19: 1, 22: 1, 23: 1, 27: 2, 28: 2, 29: 1, 30: 1, 31: 1, 32: 2, 34: 1}
	edges := []int{0, 1, 2, 3, 4, 5, 6, 7, 8, 9, 33, 34, 63, 64, 127, 128, 255}
	refused := map[int]int{}
	for k := 1; k <= 34; k++ {
		for _, a := range edges {
			for _, b := range edges {
				if a > 0 && has[k] < 1 || b > 0 && has[k] < 2 {
					continue
				}
				for f := range sample().Methods {
					m := sample()
					m.Methods[f].Code[0] = op(k, a, b)
					want := wanted(m)
					wantCheck(t, fmt.Sprint("method ", f), m, want)
					refused[k] += int(want)
				}
			}
		}
	}
	for k := 1; k <= 34; k++ {
		if names := has[k] > 0 && k != api.OpArr; names != (refused[k] > 0) {
			t.Errorf("instruction %d: it is refused: %v", k, refused[k] > 0)
		}
	}
}

// P6.1: what instructions name, by its ends, worked out by hand.
func TestInstructionEnds(t *testing.T) {
	for _, x := range []struct {
		f    int
		i    api.Instr
		want api.Errno
	}{
		{0, op(api.OpPush, 2), api.OK}, {0, op(api.OpPush, 3), api.ErrName},
		{0, op(api.OpGet, 2), api.OK}, {0, op(api.OpGet, 3), api.ErrName},
		{2, op(api.OpGet, 3), api.OK}, {2, op(api.OpPut, 4), api.ErrName},
		{1, op(api.OpGet, 0), api.ErrName}, {1, op(api.OpPut, 0), api.ErrName},
		{5, op(api.OpPut, 1), api.OK}, {5, op(api.OpPut, 2), api.ErrName},
		{1, op(api.OpJump, 0), api.OK}, {1, op(api.OpJump, 1), api.ErrName},
		{2, op(api.OpZero, 1), api.OK}, {2, op(api.OpZero, 2), api.ErrName},
		{1, op(api.OpNew, 3), api.OK}, {1, op(api.OpNew, 4), api.ErrName},
		{1, op(api.OpCast, 3), api.OK}, {1, op(api.OpCast, 4), api.ErrName},
		{1, op(api.OpField, 0, 1), api.OK}, {1, op(api.OpField, 0, 2), api.ErrName},
		{1, op(api.OpField, 1, 3), api.OK}, {1, op(api.OpField, 1, 4), api.ErrName},
		{1, op(api.OpField, 3, 4), api.OK}, {1, op(api.OpSetField, 3, 5), api.ErrName},
		{1, op(api.OpSetField, 2, 0), api.ErrName}, {1, op(api.OpSetField, 4, 0), api.ErrName},
		{1, op(api.OpStatic, 1), api.OK}, {1, op(api.OpStatic, 2), api.ErrName},
		{1, op(api.OpSetStatic, 1), api.OK}, {1, op(api.OpSetStatic, 2), api.ErrName},
		{1, op(api.OpCall, 5), api.OK}, {1, op(api.OpCall, 6), api.ErrName},
		{1, op(api.OpVirt, 0, 0), api.OK}, {1, op(api.OpVirt, 0, 1), api.ErrName},
		{1, op(api.OpVirt, 1, 1), api.OK}, {1, op(api.OpVirt, 1, 2), api.ErrName},
		{1, op(api.OpVirt, 3, 2), api.OK}, {1, op(api.OpVirt, 3, 3), api.ErrName},
		{1, op(api.OpVirt, 2, 0), api.ErrName}, {1, op(api.OpVirt, 4, 0), api.ErrName},
		{1, op(api.OpArr, 0), api.OK}, {1, op(api.OpArr, 255), api.OK},
	} {
		m := sample()
		m.Methods[x.f].Code[0] = x.i
		wantCheck(t, fmt.Sprint("first of ", x.f, ": ", x.i), m, x.want)
		m = sample()
		x0 := &m.Methods[x.f]
		x0.Code[len(x0.Code)-1] = x.i
		wantCheck(t, fmt.Sprint("last of ", x.f, ": ", x.i), m, x.want)
	}
}

// P6.1: of nothing at all an instruction can name nothing.
func TestInstructionsOfNothing(t *testing.T) {
	for k := 1; k <= 34; k++ {
		m := api.Image{Methods: []api.Method{method(nothing, nil, nil, op(k))}}
		want := api.OK
		if slices.Contains([]int{1, 3, 4, 22, 27, 28, 29, 30, 32, 34}, k) {
			want = api.ErrName
		}
		wantCheck(t, fmt.Sprint("instruction ", k), m, want)
	}
}

// P6.1: one that does not fit is told so, whatever else is wrong.
func TestImageFirst(t *testing.T) {
	misfits := []edit{
		{"Stack", func(m *api.Image) { m.Stack = 4097 }},
		{"Heap", func(m *api.Image) { m.Heap = -1 }},
		{"classes", func(m *api.Image) { m.Classes = many(9, api.Class{Super: -1}) }},
		{"Super", func(m *api.Image) { m.Classes[0].Super = -2 }},
		{"Super above", func(m *api.Image) { m.Classes[3].Super = 8 }},
		{"Super by far", func(m *api.Image) { m.Classes[3].Super = math.MaxInt }},
		{"fields", func(m *api.Image) { m.Classes[2].Fields = many(9, number) }},
		{"slots", func(m *api.Image) { m.Classes[0].Slots = many(5, 2) }},
		{"slot", func(m *api.Image) { m.Classes[0].Slots[0] = 12 }},
		{"slot below", func(m *api.Image) { m.Classes[0].Slots[0] = -1 }},
		{"statics", func(m *api.Image) { m.Statics = many(9, number) }},
		{"ints", func(m *api.Image) { m.Ints = make([]int32, 17) }},
		{"methods", func(m *api.Image) { m.Methods = many(13, m.Methods[1]) }},
		{"args", func(m *api.Image) { m.Methods[1].Args = many(5, number) }},
		{"locals", func(m *api.Image) { m.Methods[1].Locals = many(9, number) }},
		{"code", func(m *api.Image) { m.Methods[1].Code, m.Methods[1].Phi = many(65, op(api.OpRet)), make([]int, 65) }},
		{"instruction", func(m *api.Image) { m.Methods[1].Code = []api.Instr{op(35)} }},
		{"no instruction", func(m *api.Image) { m.Methods[1].Code = []api.Instr{op(0)} }},
		{"A", func(m *api.Image) { m.Methods[0].Code[0].A = 256 }},
		{"A below", func(m *api.Image) { m.Methods[0].Code[0].A = -1 }},
		{"B below", func(m *api.Image) { m.Methods[0].Code[31].B = -1 }},
		{"A of none", func(m *api.Image) { m.Methods[1].Code = []api.Instr{op(api.OpRet, 1)} }},
		{"Depth", func(m *api.Image) { m.Methods[1].Depth = 9 }},
		{"Pot", func(m *api.Image) { m.Methods[1].Pot = -1 }},
		{"Phi", func(m *api.Image) { m.Methods[1].Phi = []int{4097} }},
		{"many Phi", func(m *api.Image) { m.Methods[1].Phi = make([]int, 65) }},
		{"entries", func(m *api.Image) { m.Entries = many(13, 0) }},
		{"entry", func(m *api.Image) { m.Entries[0] = 12 }},
		{"entry below", func(m *api.Image) { m.Entries[0] = -1 }},
		{"type", func(m *api.Image) { m.Statics[0] = of(6, 0) }},
		{"N", func(m *api.Image) { m.Statics[0] = of(api.Int, 1) }},
		{"result", func(m *api.Image) { m.Methods[1].Ret = of(api.Void, 1) }},
		{"Ref", func(m *api.Image) { m.Methods[5].Ret = ref(8) }},
		{"Ref below", func(m *api.Image) { m.Methods[5].Args[0] = ref(-1) }},
		{"all", func(m *api.Image) { m.Methods = many(20000, api.Method{}) }},
	}
	for _, e := range misfits {
		wantCheck(t, e.name, edited(sample(), e), api.ErrImage)
		for _, f := range slices.Concat(typeFaults(), classFaults(), methodFaults()) {
			wantCheck(t, f.name+", and "+e.name, edited(sample(), f.edit, e), api.ErrImage)
		}
	}
}

// P6.1: all ways in which up to three classes may stand above each other, with
// fields up to the most.
func TestClasses(t *testing.T) {
	counts := []int{0, 1, 3, 4, 8}
	const supers = 5 // from -1 on
	for size := range 4 {
		total := 1
		for range size {
			total *= supers * len(counts)
		}
		for n := range total {
			var m api.Image
			for range size {
				m.Classes = append(m.Classes, api.Class{Super: n%supers - 1, Fields: many(counts[n/supers%len(counts)], number)})
				n /= supers * len(counts)
			}
			wantCheck(t, "classes", m, wanted(m))
		}
	}
}

// slotLists are all lists of at most two numbers below an end.
func slotLists(end int) [][]int {
	all := [][]int{nil}
	for a := range end {
		all = append(all, []int{a})
		for b := range end {
			all = append(all, []int{a, b})
		}
	}
	return all
}

// P6.1: all slots that three classes may have, of methods that are alike, or
// not, whichever classes stand above each other.
func TestSlots(t *testing.T) {
	ret := op(api.OpRet)
	m := api.Image{Methods: []api.Method{
		method(nothing, types(ref(0)), nil, ret),
		method(nothing, types(ref(1)), nil, ret),
		method(number, types(ref(1)), nil, ret),
		method(nothing, types(ref(2), number), nil, ret),
		method(nothing, nil, nil, ret),
	}}
	lists := slotLists(6)
	taken := 0
	for _, way := range [][]int{{-1, -1}, {0, -1}, {-1, 0}, {-1, 1}, {0, 0}, {0, 1}} {
		for _, one := range lists {
			for _, two := range lists {
				for _, three := range lists {
					m.Classes = []api.Class{{Super: -1, Slots: one}, {Super: way[0], Slots: two}, {Super: way[1], Slots: three}}
					want := wanted(m)
					if got := sane.Check(m); got != want {
						t.Errorf("Check = %d, want %d, of %v", got, want, m.Classes)
					}
					if want == api.OK {
						taken++
					}
				}
			}
		}
	}
	if taken < 500 {
		t.Errorf("only %d are sane", taken)
	}
}

// P6.1: all that an entry's method may take and give, of at most three
// arguments.
func TestEntries(t *testing.T) {
	kinds := types(number, numbers, ref(0))
	for _, ret := range types(number, numbers, ref(0), nothing) {
		lists := [][]api.Type{nil}
		for size := range 4 {
			for _, args := range lists {
				m := api.Image{Classes: []api.Class{{Super: -1}}, Methods: []api.Method{method(nothing, nil, nil, op(api.OpRet)), method(ret, args, nil, op(api.OpRet))}}
				wantCheck(t, "no entry", m, api.OK)
				m.Entries = []int{0, 1}
				want := api.OK
				if ret == numbers || ret == ref(0) || !slices.Equal(args, many(size, number)) {
					want = api.ErrName
				}
				wantCheck(t, "entry", m, want)
				m.Entries = []int{2}
				wantCheck(t, "none", m, api.ErrName)
			}
			var next [][]api.Type
			for _, args := range lists {
				for _, k := range kinds {
					next = append(next, append(slices.Clone(args), k))
				}
			}
			lists = next
		}
	}
}

// places are all numbers of an image, in order.
func places(m *api.Image) []*int {
	var all []*int
	kinds := func(list []api.Type) {
		for k := range list {
			all = append(all, &list[k].Kind, &list[k].N)
		}
	}
	each := func(list []int) {
		for k := range list {
			all = append(all, &list[k])
		}
	}
	for c := range m.Classes {
		all = append(all, &m.Classes[c].Super)
		kinds(m.Classes[c].Fields)
		each(m.Classes[c].Slots)
	}
	kinds(m.Statics)
	for f := range m.Methods {
		x := &m.Methods[f]
		kinds(x.Args)
		kinds(x.Locals)
		all = append(all, &x.Ret.Kind, &x.Ret.N, &x.Depth, &x.Pot)
		for k := range x.Code {
			all = append(all, &x.Code[k].Op, &x.Code[k].A, &x.Code[k].B)
		}
		each(x.Phi)
	}
	each(m.Entries)
	return append(all, &m.Stack, &m.Heap)
}

// P6.1: each number of the sample becomes each other one.
func TestEachNumber(t *testing.T) {
	m := sample()
	list := []int{math.MinInt, -2, 15, 16, 32, 33, 34, 35, 63, 64, 254, 255, 256, 4096, 4097, 1 << 32, math.MaxInt}
	for n := -1; n < 15; n++ {
		list = append(list, n)
	}
	for _, p := range places(&m) {
		was := *p
		for _, n := range list {
			*p = n
			wantCheck(t, "one number", m, wanted(m))
		}
		*p = was
	}
	wantCheck(t, "sample", m, api.OK)
}

// small is sane, and so small that all pairs of its numbers can be gone over.
func small() api.Image {
	return api.Image{
		Classes: []api.Class{{Super: -1, Fields: types(number), Slots: []int{0}}, {Super: 0, Fields: types(ref(1)), Slots: []int{1}}},
		Statics: types(ref(0)),
		Ints:    []int32{1},
		Methods: []api.Method{
			method(nothing, types(ref(0), number), nil, op(api.OpVirt, 1, 0)),
			method(nothing, types(ref(1), number), types(number), op(api.OpField, 1, 1)),
			method(number, types(number), nil, op(api.OpCall, 0)),
		},
		Entries: []int{2},
	}
}

// P6.1: each two numbers of a small one become each other ones.
func TestEachPair(t *testing.T) {
	m := small()
	wantCheck(t, "small", m, api.OK)
	all := places(&m)
	list := []int{-1, 0, 1, 2, 3, 5}
	for k, p := range all {
		for _, q := range all[:k] {
			one, two := *p, *q
			for _, a := range list {
				for _, b := range list {
					*p, *q = a, b
					if got, want := sane.Check(m), wanted(m); got != want {
						t.Errorf("Check = %d, want %d, of %v", got, want, m)
					}
				}
			}
			*p, *q = one, two
		}
	}
}

// reshapes are the edits of one list: without its last, without all, and with
// one more, be it the last one again, or nothing.
func reshapes[T any](name string, at func(m *api.Image) *[]T) []edit {
	return []edit{
		{name + " cut", func(m *api.Image) { *at(m) = (*at(m))[:max(len(*at(m))-1, 0)] }},
		{name + " gone", func(m *api.Image) { *at(m) = nil }},
		{name + " again", func(m *api.Image) { *at(m) = append(*at(m), (*at(m))[max(len(*at(m))-1, 0):]...) }},
		{name + " more", func(m *api.Image) { *at(m) = append(*at(m), *new(T)) }},
	}
}

// allReshapes are those of each list of the sample.
func allReshapes() []edit {
	all := slices.Concat(
		reshapes("classes", func(m *api.Image) *[]api.Class { return &m.Classes }),
		reshapes("statics", func(m *api.Image) *[]api.Type { return &m.Statics }),
		reshapes("ints", func(m *api.Image) *[]int32 { return &m.Ints }),
		reshapes("methods", func(m *api.Image) *[]api.Method { return &m.Methods }),
		reshapes("entries", func(m *api.Image) *[]int { return &m.Entries }))
	for c := range sample().Classes {
		all = slices.Concat(all,
			reshapes(fmt.Sprint("fields of ", c), func(m *api.Image) *[]api.Type { return &m.Classes[c].Fields }),
			reshapes(fmt.Sprint("slots of ", c), func(m *api.Image) *[]int { return &m.Classes[c].Slots }))
	}
	for f := range sample().Methods {
		all = slices.Concat(all,
			reshapes(fmt.Sprint("args of ", f), func(m *api.Image) *[]api.Type { return &m.Methods[f].Args }),
			reshapes(fmt.Sprint("locals of ", f), func(m *api.Image) *[]api.Type { return &m.Methods[f].Locals }),
			reshapes(fmt.Sprint("code of ", f), func(m *api.Image) *[]api.Instr { return &m.Methods[f].Code }),
			reshapes(fmt.Sprint("Phi of ", f), func(m *api.Image) *[]int { return &m.Methods[f].Phi }))
	}
	return all
}

// P6.1: each list of the sample, and each two of the lists within the ones of
// classes and methods, become shorter or longer.
func TestEachList(t *testing.T) {
	all := allReshapes()
	for k, e := range all {
		m := edited(sample(), e)
		wantCheck(t, e.name, m, wanted(m))
		for _, f := range all[20:] {
			if k < 20 {
				continue // the lists of f may be gone
			}
			m := edited(sample(), e, f)
			wantCheck(t, e.name+", "+f.name, m, wanted(m))
		}
	}
}

// roomy is a list with spare room, in which there is something.
func roomy[T any](list []T, spare T) []T {
	return append(slices.Clone(list), spare, spare)[:len(list)]
}

// roomyImage has lists with spare room everywhere.
func roomyImage(m api.Image) api.Image {
	m = image.Copy(m)
	for c := range m.Classes {
		x := &m.Classes[c]
		x.Fields, x.Slots = roomy(x.Fields, ref(3)), roomy(x.Slots, 9)
	}
	for f := range m.Methods {
		x := &m.Methods[f]
		x.Args, x.Locals = roomy(x.Args, ref(3)), roomy(x.Locals, ref(2))
		x.Code, x.Phi = roomy(x.Code, op(api.OpDup)), roomy(x.Phi, 9)
	}
	m.Classes, m.Methods = roomy(m.Classes, api.Class{Super: 9}), roomy(m.Methods, api.Method{Pot: 9})
	m.Statics, m.Ints, m.Entries = roomy(m.Statics, numbers), roomy(m.Ints, 9), roomy(m.Entries, 9)
	return m
}

// whole is all that an image's lists hold, spare room included.
func whole(m api.Image) string {
	s := fmt.Sprint(m.Classes[:cap(m.Classes)], m.Statics[:cap(m.Statics)], m.Ints[:cap(m.Ints)],
		m.Methods[:cap(m.Methods)], m.Entries[:cap(m.Entries)], m.Stack, m.Heap)
	for _, c := range m.Classes {
		s += fmt.Sprint(c.Fields[:cap(c.Fields)], c.Slots[:cap(c.Slots)])
	}
	for _, x := range m.Methods {
		s += fmt.Sprint(x.Args[:cap(x.Args)], x.Locals[:cap(x.Locals)], x.Code[:cap(x.Code)], x.Phi[:cap(x.Phi)])
	}
	return s
}

// P6.1, and R4: what is handed in is not changed, spare room included, and
// what lies there is not looked at.
func TestMemory(t *testing.T) {
	list := []api.Image{sample(), small()}
	for _, f := range slices.Concat(typeFaults(), classFaults(), methodFaults()) {
		list = append(list, edited(sample(), f.edit))
	}
	for _, m := range list {
		r := roomyImage(m)
		before := whole(r)
		wantCheck(t, "with spare room", r, wanted(m))
		if whole(r) != before {
			t.Errorf("it is changed: %v", r)
		}
	}
}

// P6.1, and R5: one image does not hang on another that was looked at before.
func TestApart(t *testing.T) {
	for _, e := range allReshapes() {
		other := edited(sample(), e)
		want := wanted(other)
		wantCheck(t, e.name, other, want)
		wantCheck(t, "behind "+e.name, sample(), api.OK)
	}
}
