package image_test

import (
	"bytes"
	"math"
	"reflect"
	"slices"
	"testing"

	"plimsoll/api"
	"plimsoll/image"
	"plimsoll/inst"
)

// of is a type by its kind and number.
func of(kind, n int) api.Type { return api.Type{Kind: kind, N: n} }

// op is an instruction by its numbers, of which the last ones may lack.
func op(list ...int) api.Instr {
	list = append(list, 0, 0)
	return api.Instr{Op: list[0], A: list[1], B: list[2]}
}

// sample has something in each of its lists, and nothing at an end.
func sample() api.Image {
	return api.Image{
		Classes: []api.Class{
			{Super: -1, Fields: []api.Type{of(api.Int, 0), of(api.Ref, 1)}, Slots: []int{2}},
			{Super: 0, Fields: []api.Type{of(api.Arr, 0)}, Slots: []int{1, 2}},
		},
		Statics: []api.Type{of(api.Arr, 0), of(api.Ref, 0)},
		Ints:    []int32{1, -1, 1000003},
		Methods: []api.Method{
			{
				Args:   []api.Type{of(api.Int, 0), of(api.Ref, 1)},
				Locals: []api.Type{of(api.Ref, 0)},
				Ret:    of(api.Int, 0),
				Code:   []api.Instr{op(api.OpGet, 0), op(api.OpArr, 200), op(api.OpPop), op(api.OpGet, 1), op(api.OpField, 1, 2), op(api.OpRet)},
				Depth:  3, Pot: 201, Phi: []int{201, 201, 0, 0, 0, 0},
			},
			{Ret: of(api.Void, 0), Code: []api.Instr{op(api.OpRet)}, Phi: []int{0}},
			{Args: []api.Type{of(api.Ref, 0)}, Ret: of(api.Ref, 1), Locals: []api.Type{of(api.Int, 0), of(api.Arr, 0)}, Pot: 1},
		},
		Entries: []int{1, 0},
		Stack:   40,
		Heap:    300,
	}
}

// many is a list of so many like one.
func many[T any](n int, x T) []T {
	return slices.Repeat([]T{x}, n)
}

// greatest has as many of all as there may be, each with the most bytes.
func greatest() api.Image {
	far := of(api.Ref, api.MaxClasses-1)
	last := api.MaxMethods - 1
	c := api.Class{Super: api.MaxClasses - 1, Fields: many(api.MaxFields, far), Slots: many(api.MaxSlots, last)}
	x := api.Method{
		Args:   many(api.MaxArgs, far),
		Locals: many(api.MaxLocals, far),
		Ret:    far,
		Code:   many(api.MaxCode, op(api.OpVirt, 255, 255)),
		Depth:  api.MaxDepth, Pot: api.MaxPot, Phi: many(api.MaxCode, api.MaxPot),
	}
	return api.Image{
		Classes: many(api.MaxClasses, c),
		Statics: many(api.MaxStatics, far),
		Ints:    many(api.MaxInts, int32(math.MinInt32)),
		Methods: many(api.MaxMethods, x),
		Entries: many(api.MaxMethods, last),
		Stack:   api.MaxQuota,
		Heap:    api.MaxQuota,
	}
}

// spelling is bytes of numbers, as chapters 2, 4 and 5 tell of them.
type spelling []byte

func (s *spelling) number(n int) {
	for n = max(n, 0); n >= 128; n /= 128 {
		*s = append(*s, byte(n%128+128))
	}
	*s = append(*s, byte(n))
}

func (s *spelling) numbers(list []int) {
	s.number(len(list))
	for _, n := range list {
		s.number(n)
	}
}

func (s *spelling) kind(t api.Type) {
	s.number(t.Kind)
	if t.Kind == api.Ref {
		s.number(t.N)
	}
}

func (s *spelling) kinds(list []api.Type) {
	s.number(len(list))
	for _, t := range list {
		s.kind(t)
	}
}

func (s *spelling) method(x api.Method) {
	s.kinds(x.Args)
	s.kinds(x.Locals)
	s.kind(x.Ret)
	s.number(len(x.Code))
	for _, i := range x.Code {
		s.number(i.Op)
		if inst.Args(i.Op) >= 1 {
			s.number(i.A)
		}
		if inst.Args(i.Op) == 2 {
			s.number(i.B)
		}
	}
	s.number(x.Depth)
	s.number(x.Pot)
	s.numbers(x.Phi)
}

// spelt is an image's bytes by the words of the chapter, whether it fits or
// not.
func spelt(m api.Image) []byte {
	s := spelling{'p', 'l', 'i', 'm'}
	s.number(len(m.Classes))
	for _, c := range m.Classes {
		s.number(c.Super + 1)
		s.kinds(c.Fields)
		s.numbers(c.Slots)
	}
	s.kinds(m.Statics)
	s.number(len(m.Ints))
	for _, n := range m.Ints {
		if n < 0 {
			s.number(-2*int(n) - 1)
		} else {
			s.number(2 * int(n))
		}
	}
	s.number(len(m.Methods))
	for _, x := range m.Methods {
		s.method(x)
	}
	s.numbers(m.Entries)
	s.number(m.Stack)
	s.number(m.Heap)
	return s
}

// edit is a change of the sample.
type edit struct {
	name string
	do   func(m *api.Image)
}

// numbered are edits by which one number of the sample becomes another one.
func numbered(name string, at func(m *api.Image) *int, list ...int) []edit {
	var all []edit
	for _, n := range list {
		all = append(all, edit{name, func(m *api.Image) { *at(m) = n }})
	}
	return all
}

// below and above are numbers under and over the ends.
func below() []int { return []int{-1, -2, -128, math.MinInt32, math.MinInt} }
func above(most int) []int {
	return []int{most + 1, most + 2, most + 128, most + 1<<32, math.MaxInt32, math.MaxInt}
}

// place is a number of an image, with the ends between which it fits.
type place struct {
	name  string
	at    func(m *api.Image) *int
	least int
	most  int
}

func places() []place {
	return []place{
		{"Stack", func(m *api.Image) *int { return &m.Stack }, 0, 4096},
		{"Heap", func(m *api.Image) *int { return &m.Heap }, 0, 4096},
		{"Super", func(m *api.Image) *int { return &m.Classes[1].Super }, -1, 7},
		{"slot", func(m *api.Image) *int { return &m.Classes[1].Slots[1] }, 0, 11},
		{"entry", func(m *api.Image) *int { return &m.Entries[1] }, 0, 11},
		{"Depth", func(m *api.Image) *int { return &m.Methods[0].Depth }, 0, 8},
		{"Pot", func(m *api.Image) *int { return &m.Methods[0].Pot }, 0, 4096},
		{"Phi", func(m *api.Image) *int { return &m.Methods[0].Phi[5] }, 0, 4096},
		{"field", func(m *api.Image) *int { return &m.Classes[0].Fields[1].N }, 0, 7},
		{"static", func(m *api.Image) *int { return &m.Statics[1].N }, 0, 7},
		{"arg", func(m *api.Image) *int { return &m.Methods[0].Args[1].N }, 0, 7},
		{"local", func(m *api.Image) *int { return &m.Methods[0].Locals[0].N }, 0, 7},
		{"result", func(m *api.Image) *int { return &m.Methods[2].Ret.N }, 0, 7},
		{"A", func(m *api.Image) *int { return &m.Methods[0].Code[4].A }, 0, 255},
		{"B", func(m *api.Image) *int { return &m.Methods[0].Code[4].B }, 0, 255},
	}
}

// length is a list of an image, by what makes it so long.
type length struct {
	name string
	do   func(m *api.Image, n int)
	most int
}

func lengths() []length {
	return []length{
		{"classes", func(m *api.Image, n int) { m.Classes = many(n, api.Class{Super: -1}) }, 8},
		{"statics", func(m *api.Image, n int) { m.Statics = many(n, of(api.Arr, 0)) }, 8},
		{"ints", func(m *api.Image, n int) { m.Ints = many(n, int32(-5)) }, 16},
		{"methods", func(m *api.Image, n int) { m.Methods = make([]api.Method, n) }, 12},
		{"entries", func(m *api.Image, n int) { m.Entries = many(n, 11) }, 12},
		{"fields", func(m *api.Image, n int) { m.Classes[1].Fields = many(n, of(api.Int, 0)) }, 8},
		{"slots", func(m *api.Image, n int) { m.Classes[1].Slots = many(n, 3) }, 4},
		{"args", func(m *api.Image, n int) { m.Methods[2].Args = many(n, of(api.Int, 0)) }, 4},
		{"locals", func(m *api.Image, n int) { m.Methods[2].Locals = many(n, of(api.Int, 0)) }, 8},
		{"code", func(m *api.Image, n int) { m.Methods[2].Code = many(n, op(api.OpRet)) }, 64},
		{"Phi", func(m *api.Image, n int) { m.Methods[2].Phi = many(n, 4096) }, 64},
	}
}

// homes are places of types.
func homes() []func(m *api.Image, t api.Type) {
	return []func(m *api.Image, t api.Type){
		func(m *api.Image, t api.Type) { m.Classes[1].Fields[0] = t },
		func(m *api.Image, t api.Type) { m.Statics[1] = t },
		func(m *api.Image, t api.Type) { m.Methods[0].Args[1] = t },
		func(m *api.Image, t api.Type) { m.Methods[2].Locals[1] = t },
		func(m *api.Image, t api.Type) { m.Methods[1].Ret = t },
	}
}

// fitting are edits by which the sample still fits.
func fitting() []edit {
	all := []edit{{"nothing", func(m *api.Image) { *m = api.Image{} }}, {"all", func(m *api.Image) { *m = greatest() }}}
	for _, p := range places() {
		all = append(all, numbered(p.name, p.at, p.least, p.most, (p.least+p.most)/2)...)
	}
	for _, l := range lengths() {
		for _, n := range []int{0, 1, l.most - 1, l.most} {
			all = append(all, edit{l.name, func(m *api.Image) { l.do(m, n) }})
		}
	}
	for _, home := range homes() {
		for _, t := range []api.Type{{}, of(api.Int, 0), of(api.Arr, 0), of(api.Ref, 0), of(api.Ref, 5), of(api.Ref, 7), of(api.Null, 0), of(api.Void, 0)} {
			all = append(all, edit{"type", func(m *api.Image) { home(m, t) }})
		}
	}
	for k := api.OpPush; k <= api.OpCast; k++ {
		i := op(slices.Concat([]int{k}, many(inst.Args(k), 255))...)
		all = append(all, edit{"instruction", func(m *api.Image) { m.Methods[0].Code[5] = i }})
	}
	for _, n := range []int32{0, 1, -1, math.MaxInt32, math.MinInt32} {
		all = append(all, edit{"int", func(m *api.Image) { m.Ints[0] = n }})
	}
	return all
}

// tooGreat are edits by which it fits no more, as its bytes would show.
func tooGreat() []edit {
	var all []edit
	for _, p := range places() {
		all = append(all, numbered(p.name, p.at, p.most+1, p.most+2, p.most+128, p.most+1<<32)...)
	}
	for _, l := range lengths() {
		for _, n := range []int{l.most + 1, l.most + 2, 128, 300} {
			all = append(all, edit{l.name, func(m *api.Image) { l.do(m, n) }})
		}
	}
	for _, home := range homes() {
		for _, t := range []api.Type{of(6, 0), of(7, 0), of(300, 0), of(api.Ref, 8), of(api.Ref, 300)} {
			all = append(all, edit{"type", func(m *api.Image) { home(m, t) }})
		}
	}
	for _, i := range []api.Instr{op(0), op(35), op(256 + api.OpRet), op(api.OpPush, 256), op(api.OpVirt, 256, 0), op(api.OpVirt, 0, 256)} {
		all = append(all, edit{"instruction", func(m *api.Image) { m.Methods[0].Code[5] = i }})
	}
	return all
}

// hidden are edits by which it fits no more, though its bytes would not show
// it: they have numbers from 0 on, and those alone that are told.
func hidden() []edit {
	var all []edit
	for _, p := range places() {
		all = append(all, numbered(p.name, p.at, p.least-1)...)
		all = append(all, numbered(p.name, p.at, below()...)...)
	}
	// -1 is below each of their ends but Super's.
	all = slices.DeleteFunc(all, func(e edit) bool {
		return changed(e).Classes[1].Super == -1
	})
	for _, home := range homes() {
		for _, k := range []int{api.None, api.Int, api.Arr, api.Null, api.Void} {
			for _, n := range []int{1, 7, 8, -1, math.MinInt, math.MaxInt} {
				all = append(all, edit{"type", func(m *api.Image) { home(m, of(k, n)) }})
			}
		}
		for _, t := range []api.Type{of(-1, 0), of(math.MinInt, 0), of(api.Ref, -1), of(api.Ref, math.MinInt)} {
			all = append(all, edit{"type", func(m *api.Image) { home(m, t) }})
		}
	}
	for _, i := range []api.Instr{op(-1), op(math.MinInt), op(0, 1, 1), op(api.OpAdd, 1), op(api.OpAdd, 0, 1), op(api.OpPush, 0, 1), op(api.OpPush, -1), op(api.OpVirt, 0, -1)} {
		all = append(all, edit{"instruction", func(m *api.Image) { m.Methods[0].Code[5] = i }})
	}
	return all
}

// huge are edits by which numbers, and lists, are far beyond all limits.
func huge() []edit {
	var all []edit
	for _, p := range places() {
		all = append(all, numbered(p.name, p.at, above(p.most)...)...)
	}
	for _, l := range lengths() {
		all = append(all, edit{l.name, func(m *api.Image) { l.do(m, 20000) }})
	}
	for _, k := range above(api.OpCast) {
		all = append(all, edit{"Op", func(m *api.Image) { m.Methods[1].Code[0].Op = k }})
	}
	return all
}

// fits holds that an image fits, and that it goes to the words' bytes, and
// comes back from them.
func fits(t *testing.T, name string, m api.Image) {
	t.Helper()
	if !image.Fits(m) {
		t.Errorf("%s: Fits(%v) = false", name, m)
	}
	b, e := image.Encode(m)
	if e != api.OK || !bytes.Equal(b, spelt(m)) {
		t.Fatalf("%s: Encode(%v) = %v, %d, want %v", name, m, b, e, spelt(m))
	}
	got, e := image.Decode(b)
	if e != api.OK || !image.Same(got, m) || !bytes.Equal(spelt(got), b) {
		t.Errorf("%s: Decode(%v) = %v, %d, want %v", name, b, got, e, m)
	}
}

// unfit holds that an image does not fit, and has no bytes.
func unfit(t *testing.T, name string, m api.Image) {
	t.Helper()
	if image.Fits(m) {
		t.Errorf("%s: Fits(%v) = true", name, m)
	}
	if b, e := image.Encode(m); e != api.ErrArg || len(b) != 0 {
		t.Errorf("%s: Encode(%v) = %v, %d", name, m, b, e)
	}
}

// refuses holds that bytes are no image's.
func refuses(t *testing.T, name string, b []byte) {
	t.Helper()
	if m, e := image.Decode(b); e != api.ErrImage || !reflect.DeepEqual(m, api.Image{}) {
		t.Errorf("%s: Decode(%v) = %v, %d", name, b, m, e)
	}
}

// changed is the sample with an edit.
func changed(e edit) api.Image {
	m := sample()
	e.do(&m)
	return m
}

// P5.1: bytes, one by one.
func TestEncodeBytes(t *testing.T) {
	for _, x := range []struct {
		m    api.Image
		want []byte
	}{
		{api.Image{}, []byte{0, 0, 0, 0, 0, 0, 0}},
		{api.Image{Stack: 5, Heap: 4096}, []byte{0, 0, 0, 0, 0, 5, 128, 32}},
		{api.Image{Entries: []int{11, 0}, Stack: 1}, []byte{0, 0, 0, 0, 2, 11, 0, 1, 0}},
		{api.Image{Ints: []int32{0, -1, 1, 64, math.MinInt32}}, []byte{0, 0, 5, 0, 1, 2, 128, 1, 255, 255, 255, 255, 15, 0, 0, 0, 0}},
		{api.Image{Statics: []api.Type{of(api.Ref, 7), of(api.Arr, 0), {}, of(api.Null, 0), of(api.Void, 0)}}, []byte{0, 5, 3, 7, 2, 0, 4, 5, 0, 0, 0, 0, 0}},
		{
			api.Image{Classes: []api.Class{{Super: -1, Fields: []api.Type{of(api.Int, 0), of(api.Ref, 1)}}, {Super: 7, Slots: []int{3, 0}}}},
			[]byte{2, 0, 2, 1, 3, 1, 0, 8, 0, 2, 3, 0, 0, 0, 0, 0, 0, 0},
		},
		{
			api.Image{Methods: []api.Method{{
				Args: []api.Type{of(api.Ref, 2)}, Locals: []api.Type{of(api.Int, 0), of(api.Arr, 0)}, Ret: of(api.Ref, 6),
				Code:  []api.Instr{op(api.OpAdd), op(api.OpPush, 128), op(api.OpVirt, 1, 255)},
				Depth: 8, Pot: 300, Phi: []int{4096, 0},
			}, {}}},
			[]byte{0, 0, 0, 2, 1, 3, 2, 2, 1, 2, 3, 6, 3, 7, 1, 128, 1, 32, 1, 255, 1, 8, 172, 2, 2, 128, 32, 0, 0, 0, 0, 0, 0, 0, 0, 0, 0, 0},
		},
	} {
		want := append([]byte("plim"), x.want...)
		if b, e := image.Encode(x.m); e != api.OK || !bytes.Equal(b, want) {
			t.Errorf("Encode(%v) = %v, %d, want %v", x.m, b, e, want)
		}
		fits(t, "bytes", x.m)
	}
}

// P5.1: what fits, each number and each list at its ends.
func TestFitting(t *testing.T) {
	fits(t, "sample", sample())
	for _, e := range fitting() {
		fits(t, e.name, changed(e))
	}
}

// P5.1: what does not fit, each number and each list beyond its ends; ErrArg.
func TestUnfit(t *testing.T) {
	for _, e := range slices.Concat(tooGreat(), hidden(), huge()) {
		unfit(t, e.name, changed(e))
	}
}

// P5.1: it fits in each of its classes and methods, not in the first one alone.
func TestUnfitAnywhere(t *testing.T) {
	m := greatest()
	for i := range m.Classes {
		m.Classes[i].Super = 8
		unfit(t, "Super", m)
		m.Classes[i].Super = -1
	}
	for i := range m.Methods {
		m.Methods[i].Pot = 4097
		unfit(t, "Pot", m)
		m.Methods[i].Pot = 0
	}
	fits(t, "again", m)
}

// P5.1: no image that fits has more than MaxImage bytes, so that there is no
// ErrOver of any.
func TestGreatest(t *testing.T) {
	b, e := image.Encode(greatest())
	if e != api.OK || len(b) > api.MaxImage {
		t.Errorf("Encode = %d bytes, %d", len(b), e)
	}
}

// P5.1: what does not fit has no bytes that are read, either.
func TestDecodeTooGreat(t *testing.T) {
	for _, e := range tooGreat() {
		refuses(t, e.name, spelt(changed(e)))
	}
}

// P5.1: bytes cut off, at each place, and others behind them.
func TestDecodeCut(t *testing.T) {
	refuses(t, "nil", nil)
	for _, m := range []api.Image{{}, sample(), greatest()} {
		b := spelt(m)
		for size := range b {
			refuses(t, "cut", b[:size:size])
			// What lies behind the end of the list is not read.
			refuses(t, "cut, with room", b[:size])
		}
		refuses(t, "more", append(bytes.Clone(b), 0))
		refuses(t, "twice", append(bytes.Clone(b), b...))
	}
}

// P5.1: each letter of the text, and its case.
func TestDecodeMark(t *testing.T) {
	b := spelt(sample())
	for _, s := range []string{"", "plin", "Plim", "qlim", "pmim", "plhm", "PLIM", "pli", " plim", "plimplim"} {
		refuses(t, s, append([]byte(s), b[4:]...))
	}
}

// P5.1: more than MaxImage bytes.
func TestDecodeLong(t *testing.T) {
	for _, m := range []api.Image{{}, sample(), greatest()} {
		for _, size := range []int{api.MaxImage, api.MaxImage + 1, api.MaxImage + 2, 1 << 20} {
			b := spelt(m)
			refuses(t, "long", append(b, make([]byte, size-len(b))...))
		}
	}
	refuses(t, "all 255", bytes.Repeat([]byte{255}, 1<<16))
}

// whole holds that bytes are an Encode, or refused.
func whole(t *testing.T, b []byte) {
	t.Helper()
	m, e := image.Decode(b)
	if e == api.ErrImage && reflect.DeepEqual(m, api.Image{}) {
		return
	}
	if e != api.OK || !image.Fits(m) || !bytes.Equal(spelt(m), b) {
		t.Errorf("Decode(%v) = %v, %d, of which the bytes are %v", b, m, e, spelt(m))
	}
}

// P5.1: each byte changed to each other one: it is an Encode, or it is refused.
func TestDecodeChanged(t *testing.T) {
	for _, m := range []api.Image{{}, sample()} {
		b := spelt(m)
		for at := range b {
			was := b[at]
			for x := range 256 {
				b[at] = byte(x)
				whole(t, b)
			}
			b[at] = was
		}
	}
}

// P5.1: each byte put in and each left out, and two exchanged.
func TestDecodeMoved(t *testing.T) {
	b := spelt(sample())
	for at := range b {
		whole(t, slices.Delete(bytes.Clone(b), at, at+1))
		for _, x := range []byte{0, 1, 2, 3, 5, 127, 128, 255} {
			whole(t, slices.Insert(bytes.Clone(b), at, x))
		}
		for to := range b {
			c := bytes.Clone(b)
			c[at], c[to] = c[to], c[at]
			whole(t, c)
		}
	}
}

// P5.1: a number of more bytes than it needs is no Encode's.
func TestDecodeLonger(t *testing.T) {
	b := spelt(sample())
	for at := 4; at < len(b); at++ {
		if b[at] < 128 {
			c := slices.Insert(bytes.Clone(b), at+1, 0)
			c[at] |= 128
			refuses(t, "longer", c)
		}
	}
}

// P5.1: an image is the same as itself alone, whichever way it is asked.
func TestSame(t *testing.T) {
	all := slices.Concat(fitting(), tooGreat(), hidden(), huge())
	for i, e := range all {
		a, b := changed(e), changed(e)
		if !image.Same(a, b) {
			t.Errorf("%s: Same(%v, %v) = false", e.name, a, b)
		}
		for _, other := range []api.Image{sample(), changed(all[(i+1)%len(all)])} {
			alike := bytes.Equal(told(a), told(other))
			if image.Same(a, other) != alike || image.Same(other, a) != alike {
				t.Errorf("%s: Same(%v, %v) = %v", e.name, a, other, !alike)
			}
		}
	}
}

// told is all of an image as bytes, with lengths, that no other one has.
func told(m api.Image) []byte {
	var s []byte
	var walk func(v reflect.Value)
	walk = func(v reflect.Value) {
		switch v.Kind() {
		case reflect.Struct:
			for i := range v.NumField() {
				walk(v.Field(i))
			}
		case reflect.Slice:
			walk(reflect.ValueOf(v.Len()))
			for i := range v.Len() {
				walk(v.Index(i))
			}
		default:
			for i := range 8 {
				s = append(s, byte(v.Int()>>(8*i)))
			}
		}
	}
	walk(reflect.ValueOf(m))
	return s
}

// lists goes over all lists of something, inner ones too.
func lists(v reflect.Value, each func(list reflect.Value)) {
	switch v.Kind() {
	case reflect.Pointer:
		lists(v.Elem(), each)
	case reflect.Struct:
		for i := range v.NumField() {
			lists(v.Field(i), each)
		}
	case reflect.Slice:
		each(v)
		for i := range v.Len() {
			lists(v.Index(i), each)
		}
	}
}

// P5.1: each number of an image counts, wherever it stands.
func TestSameEachNumber(t *testing.T) {
	var numbers func(v reflect.Value) []reflect.Value
	numbers = func(v reflect.Value) []reflect.Value {
		var all []reflect.Value
		switch v.Kind() {
		case reflect.Struct:
			for i := range v.NumField() {
				all = append(all, numbers(v.Field(i))...)
			}
		case reflect.Slice:
			for i := range v.Len() {
				all = append(all, numbers(v.Index(i))...)
			}
		default:
			all = append(all, v)
		}
		return all
	}
	m := sample()
	for i, v := range numbers(reflect.ValueOf(&m).Elem()) {
		v.SetInt(v.Int() + 1)
		if image.Same(m, sample()) || image.Same(sample(), m) || !image.Same(m, image.Copy(m)) {
			t.Errorf("number %d does not count", i)
		}
		v.SetInt(v.Int() - 1)
	}
	if !image.Same(m, sample()) {
		t.Error("not as it was")
	}
}

// P5.1: each list of an image counts, with how long it is.
func TestSameEachList(t *testing.T) {
	m := sample()
	lists(reflect.ValueOf(&m), func(list reflect.Value) {
		was := reflect.New(list.Type()).Elem()
		was.Set(list)
		for _, n := range []int{0, list.Len() - 1} {
			if n >= 0 && n < was.Len() {
				list.Set(was.Slice(0, n))
				if image.Same(m, sample()) || image.Same(sample(), m) {
					t.Errorf("of %v %d count", was, n)
				}
			}
		}
		list.Set(was)
	})
}

// P5.1: nil and empty lists are alike, in what comes back, too.
func TestSameEmpty(t *testing.T) {
	for _, e := range fitting() {
		none, empty := changed(e), changed(e)
		lists(reflect.ValueOf(&none), func(list reflect.Value) {
			if list.Len() == 0 {
				list.SetZero()
			}
		})
		lists(reflect.ValueOf(&empty), func(list reflect.Value) {
			if list.Len() == 0 {
				list.Set(reflect.MakeSlice(list.Type(), 0, 3))
			}
		})
		if !image.Same(none, empty) || !image.Same(empty, none) || !image.Same(image.Copy(none), image.Copy(empty)) {
			t.Errorf("%s: nil and empty lists are unlike", e.name)
		}
		fits(t, e.name, none)
		fits(t, e.name, empty)
	}
}

// P5.1: a copy of anything is the same, whether it fits or not.
func TestCopy(t *testing.T) {
	for _, e := range slices.Concat(fitting(), tooGreat(), hidden(), huge()) {
		m := changed(e)
		if c := image.Copy(m); !image.Same(c, m) || !bytes.Equal(told(c), told(m)) {
			t.Errorf("%s: Copy(%v) = %v", e.name, m, c)
		}
	}
}

// stretch is where a list lies, spare room included.
type stretch struct{ from, to uintptr }

// stretches are those of all lists.
func stretches(m any) []stretch {
	var all []stretch
	lists(reflect.ValueOf(m), func(list reflect.Value) {
		if size := uintptr(list.Cap()) * list.Type().Elem().Size(); size > 0 {
			all = append(all, stretch{list.Pointer(), list.Pointer() + size})
		}
	})
	return all
}

// apart holds that no two lists share any memory.
func apart(t *testing.T, what string, things ...any) {
	t.Helper()
	var all []stretch
	for _, x := range things {
		all = append(all, stretches(x)...)
	}
	slices.SortFunc(all, func(a, b stretch) int { return int(a.from) - int(b.from) })
	for i := 1; i < len(all); i++ {
		if all[i].from < all[i-1].to {
			t.Errorf("%s: two lists share memory", what)
		}
	}
}

// roomy gives all lists spare room, with something in it.
func roomy(m api.Image) api.Image {
	lists(reflect.ValueOf(&m), func(list reflect.Value) {
		more := reflect.MakeSlice(list.Type(), list.Len()+3, list.Len()+3)
		reflect.Copy(more, list)
		for i := list.Len(); i < more.Len(); i++ {
			fill(more.Index(i))
		}
		list.Set(more.Slice(0, list.Len()))
	})
	return m
}

// fill sets all numbers to one.
func fill(v reflect.Value) {
	switch v.Kind() {
	case reflect.Struct:
		for i := range v.NumField() {
			fill(v.Field(i))
		}
	case reflect.Slice:
		for i := range v.Len() {
			fill(v.Index(i))
		}
	default:
		v.SetInt(77)
	}
}

// wide are all lists with their spare room, one behind the other.
func wide(m api.Image) []any {
	var all []any
	lists(reflect.ValueOf(m), func(list reflect.Value) {
		all = append(all, list.Slice(0, list.Cap()).Interface())
	})
	return all
}

// P5.1, and R4: what is handed in stays as it is, spare room included, and is
// not kept; no two lists share memory.
func TestMemory(t *testing.T) {
	m := roomy(sample())
	image.Fits(m)
	image.Same(m, sample())
	b, _ := image.Encode(m)
	again, _ := image.Encode(m)
	c, d := image.Copy(m), image.Copy(m)
	x, _ := image.Decode(b)
	y, _ := image.Decode(b)
	if !reflect.DeepEqual(wide(m), wide(roomy(sample()))) {
		t.Error("handed in, and changed")
	}
	apart(t, "all", m, b, again, c, d, x, y)
	clear(b[:cap(b)])
	for _, one := range []api.Image{m, c, x} {
		fill(reflect.ValueOf(&one).Elem())
	}
	if !image.Same(d, sample()) || !image.Same(y, sample()) || !bytes.Equal(again, spelt(sample())) {
		t.Error("an answer changed with others")
	}
}

// P5.1, and R4: lists that are one where they are handed in are several in a
// copy.
func TestCopyShared(t *testing.T) {
	m := greatest() // whose classes share their lists, and its methods
	c := image.Copy(m)
	apart(t, "a copy", c)
	c.Classes[0].Fields[0] = of(api.Int, 0)
	c.Methods[0].Code[0] = op(api.OpRet)
	want := greatest()
	if !image.Same(api.Image{Classes: c.Classes[1:], Methods: c.Methods[1:]}, api.Image{Classes: want.Classes[1:], Methods: want.Methods[1:]}) {
		t.Error("one class or method changed with another one")
	}
	if !image.Same(m, want) {
		t.Error("the image changed with its copy")
	}
}

// P5.1, and R4: what is decoded does not change with the bytes.
func TestDecodeMemory(t *testing.T) {
	b := append(spelt(sample()), 9, 9, 9)
	short := b[:len(b)-3]
	want := bytes.Clone(b)
	m, _ := image.Decode(short)
	if !bytes.Equal(b, want) {
		t.Error("handed in, and changed")
	}
	clear(b)
	if !image.Same(m, sample()) {
		t.Error("an image changed with its bytes")
	}
}
