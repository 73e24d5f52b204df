package class_test

import (
	"math"
	"slices"
	"testing"

	"plimsoll/api"
	"plimsoll/class"
)

var (
	number  = api.Type{Kind: api.Int}
	numbers = api.Type{Kind: api.Arr}
)

func ref(n int) api.Type { return api.Type{Kind: api.Ref, N: n} }

// types is a list of them.
func types(list ...api.Type) []api.Type { return list }

// family has two tops, 0 and 2, a class without fields on the way, and fields
// that lie on no way but their own class's.
//
//	0         2
//	|-1-4     `-5
//	`-3-6-7
func family() api.Image {
	return api.Image{
		Classes: []api.Class{
			{Super: -1, Fields: types(number, ref(0)), Slots: []int{3, 4}},
			{Super: 0, Fields: types(numbers), Slots: []int{5, 4}},
			{Super: -1},
			{Super: 0, Slots: []int{3, 4, 0, 11}},
			{Super: 1, Fields: types(ref(7), number), Slots: []int{5, 6, 7}},
			{Super: 2, Fields: types(ref(1)), Slots: []int{0}},
			{Super: 3, Fields: types(numbers, numbers), Slots: []int{3, 4, 0, 10}},
			{Super: 6, Fields: types(number), Slots: []int{3, 4, 0, 10}},
		},
		Statics: types(ref(5)),
		Methods: make([]api.Method, 12),
	}
}

// lonely is the family, and classes above which nothing stands, whatever their
// Super says: their own number, greater ones, the ends of all numbers.
func lonely() api.Image {
	m := family()
	for k, s := range []int{8, 10, 11, 99, -2, math.MinInt, math.MaxInt, 1} {
		m.Classes = append(m.Classes, api.Class{Super: s, Fields: types(ref(k)), Slots: []int{k}})
	}
	return m
}

// noClasses are numbers that are none where there are so many.
func noClasses(many int) []int {
	return []int{math.MinInt, -2, -1, many, many + 1, math.MaxInt}
}

// upward is a class, what stands above it, above that, and so on, by the words
// of chapter 3; nothing of what is no class.
func upward(m api.Image, c int) []int {
	if c < 0 || c >= len(m.Classes) {
		return nil
	}
	way := []int{c}
	if s := m.Classes[c].Super; 0 <= s && s <= c-1 {
		way = append(way, upward(m, s)...)
	}
	return way
}

// fieldsOf is Fields, by the words of the chapter.
func fieldsOf(m api.Image, c int) []api.Type {
	var all []api.Type
	for _, k := range upward(m, c) {
		all = slices.Concat(m.Classes[k].Fields, all)
	}
	return all
}

// downward is Below, by the words of the chapter.
func downward(m api.Image, c int) []int {
	var all []int
	for k := range m.Classes {
		if slices.Contains(upward(m, k), c) {
			all = append(all, k)
		}
	}
	return all
}

func wantFields(t *testing.T, m api.Image, c int, want []api.Type) {
	t.Helper()
	if got := class.Fields(m, c); !slices.Equal(got, want) {
		t.Errorf("Fields(%v, %d) = %v, want %v", m.Classes, c, got, want)
	}
	if got := class.Size(m, c); got != len(want)+1 {
		t.Errorf("Size(%v, %d) = %d, want %d", m.Classes, c, got, len(want)+1)
	}
}

func wantBelow(t *testing.T, m api.Image, c int, want []int) {
	t.Helper()
	if got := class.Below(m, c); !slices.Equal(got, want) {
		t.Errorf("Below(%v, %d) = %v, want %v", m.Classes, c, got, want)
	}
}

func wantSlot(t *testing.T, m api.Image, c, n, want int, ok bool) {
	t.Helper()
	if got, is := class.Slot(m, c, n); got != want || is != ok {
		t.Errorf("Slot(%v, %d, %d) = %d, %v, want %d, %v", m.Classes, c, n, got, is, want, ok)
	}
}

func wantLocal(t *testing.T, x api.Method, n int, want api.Type) {
	t.Helper()
	if got := class.Local(x, n); got != want {
		t.Errorf("Local(%v, %d) = %v, want %v", x, n, got, want)
	}
}

// P7.1: all fields of a class, those of the highest one above it first; its
// size is one more.
func TestFields(t *testing.T) {
	m := family()
	for c, want := range [][]api.Type{
		types(number, ref(0)),
		types(number, ref(0), numbers),
		nil,
		types(number, ref(0)),
		types(number, ref(0), numbers, ref(7), number),
		types(ref(1)),
		types(number, ref(0), numbers, numbers),
		types(number, ref(0), numbers, numbers, number),
	} {
		wantFields(t, m, c, want)
	}
}

// P7.1: what stands above a class hangs on its number (chapter 3): of one with
// another Super the fields are its own ones.
func TestFieldsNothingAbove(t *testing.T) {
	m := lonely()
	for k := range 7 {
		wantFields(t, m, 8+k, types(ref(k)))
	}
	wantFields(t, m, 15, types(number, ref(0), numbers, ref(7)))
	// Two that stand one above the other, by their Supers: just one counts.
	ring := api.Image{Classes: []api.Class{{Super: 1, Fields: types(number)}, {Super: 0, Fields: types(numbers)}}}
	wantFields(t, ring, 0, types(number))
	wantFields(t, ring, 1, types(number, numbers))
}

// P7.1: fields are answered as they are, also such as no applet has, and more
// than it may have.
func TestFieldsOfAnyKind(t *testing.T) {
	odd := types(api.Type{}, api.Type{Kind: api.Void, N: 3}, api.Type{Kind: -1, N: math.MinInt}, ref(99), api.Type{Kind: math.MaxInt})
	m := api.Image{Classes: []api.Class{{Super: -1, Fields: odd}, {Super: 0, Fields: slices.Repeat(odd, 3)}}}
	wantFields(t, m, 0, odd)
	wantFields(t, m, 1, slices.Repeat(odd, 4))
}

// P7.1: of a class that there is not: no fields, Size 1, false, none.
func TestNoClass(t *testing.T) {
	for _, m := range []api.Image{family(), lonely(), {}, {Classes: []api.Class{}}, {Classes: []api.Class{{Super: 1, Fields: types(number), Slots: []int{2}}}}} {
		for _, c := range noClasses(len(m.Classes)) {
			wantFields(t, m, c, nil)
			wantBelow(t, m, c, nil)
			for _, n := range []int{math.MinInt, -1, 0, 1, math.MaxInt} {
				wantSlot(t, m, c, n, 0, false)
			}
		}
	}
}

// P7.1: the method that a class has in a slot, of its own ones.
func TestSlot(t *testing.T) {
	m := lonely()
	for c, x := range m.Classes {
		for n, f := range x.Slots {
			wantSlot(t, m, c, n, f, true)
		}
		for _, n := range []int{math.MinInt, -2, -1, len(x.Slots), len(x.Slots) + 1, 99, math.MaxInt} {
			wantSlot(t, m, c, n, 0, false)
		}
	}
	wantSlot(t, m, 3, 3, 11, true)
	wantSlot(t, m, 3, 2, 0, true) // method 0 is one
}

// P7.1: a class with fewer slots than its Super, which is not sane, has not
// those of the Super.
func TestSlotNotAbove(t *testing.T) {
	m := api.Image{Classes: []api.Class{{Super: -1, Slots: []int{1, 2}}, {Super: 0, Slots: []int{3}}, {Super: 1}}}
	wantSlot(t, m, 1, 0, 3, true)
	wantSlot(t, m, 1, 1, 0, false)
	wantSlot(t, m, 2, 0, 0, false)
}

// P7.1: what a slot holds is answered as it is, also where it is no method.
func TestSlotOfAnyNumber(t *testing.T) {
	list := []int{math.MinInt, -1, 12, 99, math.MaxInt, 0}
	m := api.Image{Classes: []api.Class{{Super: -1, Slots: list}}}
	for n, f := range list {
		wantSlot(t, m, 0, n, f, true)
	}
}

// P7.1: all classes that are Below one, rising, itself among them.
func TestBelow(t *testing.T) {
	m := family()
	for c, want := range [][]int{
		{0, 1, 3, 4, 6, 7},
		{1, 4},
		{2, 5},
		{3, 6, 7},
		{4},
		{5},
		{6, 7},
		{7},
	} {
		wantBelow(t, m, c, want)
	}
}

// P7.1: nothing stands above a class whose Super does not count (chapter 3).
func TestBelowNothingAbove(t *testing.T) {
	m := lonely()
	for c := 8; c <= 15; c++ {
		wantBelow(t, m, c, []int{c})
	}
	wantBelow(t, m, 0, []int{0, 1, 3, 4, 6, 7, 15})
	wantBelow(t, m, 1, []int{1, 4, 15})
	ring := api.Image{Classes: []api.Class{{Super: 1}, {Super: 0}}}
	wantBelow(t, ring, 0, []int{0, 1})
	wantBelow(t, ring, 1, []int{1})
}

// lists are all of so many classes, with each Super from -2 to one beyond.
func lists(n int) [][]api.Class {
	all := [][]api.Class{nil}
	for range n {
		var next [][]api.Class
		for _, list := range all {
			for s := -2; s <= n+1; s++ {
				k := len(list)
				x := api.Class{Super: s, Fields: slices.Repeat(types(ref(k)), k%3), Slots: []int{k}}
				next = append(next, append(slices.Clone(list), x))
			}
		}
		all = next
	}
	return all
}

// P7.1: all numbers, of all lists of up to five classes, against the words.
func TestAllSmallLists(t *testing.T) {
	for n := range 6 {
		for _, list := range lists(n) {
			m := api.Image{Classes: list}
			for c := -2; c <= n+1; c++ {
				wantFields(t, m, c, fieldsOf(m, c))
				wantBelow(t, m, c, downward(m, c))
			}
		}
	}
}

// P7.1: the arguments are the first locals; the zero type, if there is none.
func TestLocal(t *testing.T) {
	a, b := types(number, ref(1), numbers), types(ref(2), number)
	for _, x := range []api.Method{
		{},
		{Args: a},
		{Locals: b},
		{Args: a, Locals: b},
		{Args: b, Locals: a},
		{Args: []api.Type{}, Locals: a},
		{Args: a, Locals: slices.Repeat(b, 20), Ret: ref(9)},
	} {
		all := slices.Concat(x.Args, x.Locals)
		for n, want := range all {
			wantLocal(t, x, n, want)
		}
		for _, n := range []int{math.MinInt, math.MinInt + 1, -4, -3, -2, -1, len(all), len(all) + 1, 99, math.MaxInt} {
			wantLocal(t, x, n, api.Type{})
		}
	}
}

// P7.1: a local's type is answered as it is, also one that no applet has.
func TestLocalOfAnyKind(t *testing.T) {
	odd := types(api.Type{Kind: api.Void, N: 3}, api.Type{Kind: -1, N: math.MinInt}, ref(99))
	for n, want := range odd {
		wantLocal(t, api.Method{Args: odd}, n, want)
		wantLocal(t, api.Method{Args: odd, Locals: odd}, n+3, want)
	}
}

// R1, R8: a way up far longer than an applet's. All of it is answered.
func TestLongWay(t *testing.T) {
	const many = 200000
	m := api.Image{Classes: make([]api.Class, many)}
	for c := range m.Classes {
		m.Classes[c] = api.Class{Super: c - 1, Fields: types(ref(c))}
	}
	all := class.Fields(m, many-1)
	if len(all) != many || all[0] != ref(0) || all[many-1] != ref(many-1) {
		t.Errorf("Fields of a long way: %d", len(all))
	}
	if n := class.Size(m, many-2); n != many {
		t.Errorf("Size of a long way: %d", n)
	}
	below := class.Below(m, 1)
	if len(below) != many-1 || below[0] != 1 || below[many-2] != many-1 || !slices.IsSorted(below) {
		t.Errorf("Below of a long way: %d", len(below))
	}
}

// roomy is a list with spare room, in which there is something.
func roomy[T any](list []T, spare T) []T {
	return append(slices.Clone(list), spare, spare, spare)[:len(list)]
}

// roomyFamily is the family with spare room, in which there is something that
// would count, if it were there.
func roomyFamily() api.Image {
	m := family()
	for c := range m.Classes {
		x := &m.Classes[c]
		x.Fields, x.Slots = roomy(x.Fields, ref(6)), roomy(x.Slots, 9)
	}
	m.Classes = roomy(m.Classes, api.Class{Super: 0, Fields: types(number), Slots: []int{1}})
	return m
}

// sameClasses: are all classes alike, spare room included?
func sameClasses(a, b []api.Class) bool {
	return slices.EqualFunc(a[:cap(a)], b[:cap(b)], func(x, y api.Class) bool {
		return x.Super == y.Super &&
			slices.Equal(x.Fields[:cap(x.Fields)], y.Fields[:cap(y.Fields)]) &&
			slices.Equal(x.Slots[:cap(x.Slots)], y.Slots[:cap(y.Slots)])
	})
}

// R4: what is handed in stays as it is, spare room included, and what lies
// there does not count.
func TestKeepsImage(t *testing.T) {
	m, plain := roomyFamily(), family()
	for c := -1; c <= len(m.Classes)+1; c++ {
		wantFields(t, m, c, fieldsOf(plain, c))
		wantBelow(t, m, c, downward(plain, c))
		for n := range 6 {
			want, ok := class.Slot(plain, c, n)
			wantSlot(t, m, c, n, want, ok)
		}
	}
	if !sameClasses(m.Classes, roomyFamily().Classes) {
		t.Errorf("it is changed: %v", m.Classes)
	}
}

// R4: likewise a method's types.
func TestKeepsMethod(t *testing.T) {
	args, locals := roomy(types(number), ref(6)), roomy(types(numbers), ref(7))
	x := api.Method{Args: args, Locals: locals}
	for n, want := range types(number, numbers, api.Type{}, api.Type{}, api.Type{}) {
		wantLocal(t, x, n, want)
	}
	if !slices.Equal(args[:4], types(number, ref(6), ref(6), ref(6))) || !slices.Equal(locals[:4], types(numbers, ref(7), ref(7), ref(7))) {
		t.Errorf("it is changed: %v, %v", args[:4], locals[:4])
	}
}

// R4, R5: an answer shares no memory with what was handed in, or with another
// answer, spare room included.
func TestAnswersApart(t *testing.T) {
	m := roomyFamily()
	for c := range m.Classes {
		first, other := class.Fields(m, c), class.Fields(m, c)
		below, others := class.Below(m, c), class.Below(m, c)
		first, below = first[:cap(first)], below[:cap(below)]
		for k := range first {
			first[k] = ref(77)
		}
		for k := range below {
			below[k] = 77
		}
		if !slices.Equal(other, fieldsOf(family(), c)) || !slices.Equal(others, downward(family(), c)) {
			t.Errorf("class %d: one answer changed with another one: %v, %v", c, other, others)
		}
		wantFields(t, m, c, fieldsOf(family(), c))
		wantBelow(t, m, c, downward(family(), c))
	}
	if !sameClasses(m.Classes, roomyFamily().Classes) {
		t.Errorf("the image changed with an answer: %v", m.Classes)
	}
}
