package bits_test

import (
	"bytes"
	"math"
	"testing"

	"plimsoll/bits"
)

const (
	least = math.MinInt32
	most  = math.MaxInt32
	// greatest is more than five bytes can hold, so that nothing is above it.
	greatest = math.MaxInt
)

// digits are a number's bytes, worked out by division: 128 and the rest for
// each byte but the last one.
func digits(n int) []byte {
	var list []byte
	for n >= 128 {
		list = append(list, byte(n%128+128))
		n /= 128
	}
	return append(list, byte(n))
}

// folded is what Long puts for a number with a sign: 0, -1, 1, -2, 2 and on.
func folded(n int32) int {
	if n < 0 {
		return 2*-int(n) - 1
	}
	return 2 * int(n)
}

// edges are the numbers where one more byte is needed, their neighbours, and
// some between.
func edges() []int {
	list := []int{0, 1, 2, 5, 63, 64, 100, 300, 1000003, most, 1 << 32, greatest - 1, greatest}
	for e := 128; e > 0 && e < 1<<62; e *= 128 {
		list = append(list, e-1, e, e+1, e+127, 3*e/2)
	}
	return list
}

// signed are the ends, powers of 2 with their neighbours, and some between.
func signed() []int32 {
	list := []int32{0, least, least + 1, most - 1, most, 1000003, -1000003}
	for i := range 31 {
		p := int32(1) << i
		list = append(list, p-1, p, p+1, -p-1, -p, -p+1)
	}
	return list
}

// fronts are bytes that are there already.
func fronts() [][]byte {
	return [][]byte{nil, {}, {7}, {0, 128, 255}, bytes.Repeat([]byte{200}, 100)}
}

// wantBytes holds what stands behind b, with b ahead of it.
func wantBytes(t *testing.T, what string, n int, got, b, want []byte) {
	t.Helper()
	if !bytes.Equal(got, append(bytes.Clone(b), want...)) {
		t.Errorf("%s(%v, %d) = %v, want it and %v", what, b, n, got, want)
	}
}

// wantGet takes a number that has to be there.
func wantGet(t *testing.T, r *bits.Reader, limit, want int) {
	t.Helper()
	if n := r.Get(limit); n != want || r.Bad() {
		t.Errorf("Get(%d) = %d, bad %v, want %d", limit, n, r.Bad(), want)
	}
}

// wantBad holds that nothing comes of a reader any more, however it is asked.
func wantBad(t *testing.T, r *bits.Reader) {
	t.Helper()
	for range 2 {
		for _, limit := range []int{greatest, 0, -1, 1<<32 - 1} {
			if n := r.Get(limit); n != 0 {
				t.Errorf("bad: Get(%d) = %d", limit, n)
			}
		}
		if n := r.Long(); n != 0 {
			t.Errorf("bad: Long() = %d", n)
		}
		if !r.Bad() || r.End() {
			t.Errorf("Bad() = %v, End() = %v, want true, false", r.Bad(), r.End())
		}
	}
}

// refuses holds that a Get answers 0, and that the reader is bad from then on.
func refuses(t *testing.T, b []byte, limit int) {
	t.Helper()
	r := bits.New(b)
	if n := r.Get(limit); n != 0 || !r.Bad() || r.End() {
		t.Errorf("New(%v).Get(%d) = %d, bad %v, end %v", b, limit, n, r.Bad(), r.End())
	}
	wantBad(t, r)
}

// P2.1: ordinary numbers, by the bytes themselves.
func TestPutBytes(t *testing.T) {
	for _, x := range []struct {
		n    int
		want []byte
	}{
		{0, []byte{0}},
		{1, []byte{1}},
		{127, []byte{127}},
		{128, []byte{128, 1}},
		{300, []byte{172, 2}},
		{16383, []byte{255, 127}},
		{16384, []byte{128, 128, 1}},
		{2097151, []byte{255, 255, 127}},
		{2097152, []byte{128, 128, 128, 1}},
		{1<<32 - 1, []byte{255, 255, 255, 255, 15}},
		{1<<35 - 1, []byte{255, 255, 255, 255, 127}},
		{1 << 35, []byte{128, 128, 128, 128, 128, 1}},
		{math.MaxInt, []byte{255, 255, 255, 255, 255, 255, 255, 255, 127}},
	} {
		wantBytes(t, "Put", x.n, bits.Put(nil, x.n), nil, x.want)
	}
}

// P2.1: where one more byte is needed, behind bytes that are there.
func TestPutEdges(t *testing.T) {
	for _, b := range fronts() {
		for _, n := range edges() {
			wantBytes(t, "Put", n, bits.Put(b, n), b, digits(n))
		}
	}
}

// P2.1: 0, if it is below.
func TestPutBelow(t *testing.T) {
	for _, b := range fronts() {
		for _, n := range []int{-1, -5, -127, -128, -129, least, math.MinInt + 1, math.MinInt} {
			wantBytes(t, "Put", n, bits.Put(b, n), b, []byte{0})
		}
	}
}

// P2.1: ordinary numbers with signs, by the bytes themselves.
func TestLongBytes(t *testing.T) {
	for _, x := range []struct {
		n    int32
		want []byte
	}{
		{0, []byte{0}},
		{-1, []byte{1}},
		{1, []byte{2}},
		{-2, []byte{3}},
		{63, []byte{126}},
		{-64, []byte{127}},
		{64, []byte{128, 1}},
		{-65, []byte{129, 1}},
		{most, []byte{254, 255, 255, 255, 15}},
		{least, []byte{255, 255, 255, 255, 15}},
	} {
		wantBytes(t, "Long", int(x.n), bits.Long(nil, x.n), nil, x.want)
	}
}

// P2.1: over all edges, behind bytes that are there.
func TestLongEdges(t *testing.T) {
	for _, b := range fronts() {
		for _, n := range signed() {
			wantBytes(t, "Long", int(n), bits.Long(b, n), b, digits(folded(n)))
		}
	}
}

// P2.1, and R4: what is handed in stays as it is, spare room included, and
// what is answered shares nothing with it.
func TestPutMemory(t *testing.T) {
	puts := []func(b []byte) []byte{
		func(b []byte) []byte { return bits.Put(b, 300) },
		func(b []byte) []byte { return bits.Put(b, 5) },
		func(b []byte) []byte { return bits.Put(b, -5) },
		func(b []byte) []byte { return bits.Long(b, 300) },
		func(b []byte) []byte { return bits.Long(b, -300) },
	}
	for i, put := range puts {
		for size := range 4 {
			whole := bytes.Repeat([]byte{9}, 20)
			got := put(whole[:size])
			again := put(whole[:size])
			if !bytes.Equal(whole, bytes.Repeat([]byte{9}, 20)) {
				t.Errorf("%d: of %d bytes: handed in, and now %v", i, size, whole)
			}
			want := bytes.Clone(got)
			for k := range again[:cap(again)] {
				again[:cap(again)][k] = 77
			}
			clear(whole)
			if !bytes.Equal(got, want) {
				t.Errorf("%d: of %d bytes: %v shares with others", i, size, got)
			}
			clear(got[:cap(got)])
			if !bytes.Equal(whole, make([]byte, 20)) {
				t.Errorf("%d: of %d bytes: spare room is shared", i, size)
			}
		}
	}
}

// P2.2: numbers come one after the other, whatever their sizes.
func TestGetAll(t *testing.T) {
	var b []byte
	var list []int
	for _, n := range edges() {
		if n < 1<<35 {
			b, list = bits.Put(b, n), append(list, n)
		}
	}
	r := bits.New(b)
	for _, n := range list {
		if r.End() || r.Bad() {
			t.Fatalf("ahead of %d: end %v, bad %v", n, r.End(), r.Bad())
		}
		wantGet(t, r, greatest, n)
	}
	if !r.End() || r.Bad() {
		t.Errorf("behind all: end %v, bad %v", r.End(), r.Bad())
	}
	refusesMore(t, r)
}

// refusesMore holds that a reader at its end is bad when it is asked for more.
func refusesMore(t *testing.T, r *bits.Reader) {
	t.Helper()
	if n := r.Get(greatest); n != 0 || !r.Bad() || r.End() {
		t.Errorf("at the end: Get = %d, bad %v, end %v", n, r.Bad(), r.End())
	}
	wantBad(t, r)
}

// P2.2: at most it is a number, above most it is bad.
func TestGetMost(t *testing.T) {
	for _, n := range edges() {
		if n >= 1<<35 {
			continue
		}
		b := digits(n)
		r := bits.New(b)
		wantGet(t, r, n, n)
		if !r.End() {
			t.Errorf("%d: there is something left", n)
		}
		wantGet(t, bits.New(b), n+1, n)
		refuses(t, b, n-1)
		refuses(t, b, -1)
		refuses(t, b, math.MinInt)
	}
}

// P2.2: what is above most goes for the rest, too: it does not come back.
func TestGetAboveStays(t *testing.T) {
	r := bits.New([]byte{172, 2, 9, 8})
	wantGet(t, r, 300, 300)
	wantGet(t, r, 9, 9)
	if r.End() {
		t.Error("there is one left")
	}
	if n := r.Get(7); n != 0 {
		t.Errorf("Get(7) = %d of 8", n)
	}
	wantBad(t, r)
}

// P2.2: more bytes than it needs are no number.
func TestGetLonger(t *testing.T) {
	for _, b := range [][]byte{
		{128, 0},
		{129, 0},
		{255, 0},
		{128, 128, 0},
		{172, 130, 0},
		{255, 255, 255, 0},
		{128, 128, 128, 128, 0},
		{255, 255, 255, 255, 0},
		{128, 0, 5},
	} {
		refuses(t, b, greatest)
	}
	wantGet(t, bits.New([]byte{0, 5}), greatest, 0)
	wantGet(t, bits.New([]byte{128, 128, 1, 5}), greatest, 16384)
}

// P2.2: cut off.
func TestGetCut(t *testing.T) {
	refuses(t, nil, greatest)
	refuses(t, []byte{}, greatest)
	for _, n := range edges() {
		whole := digits(n)
		for size := range whole {
			refuses(t, whole[:size], greatest)
		}
	}
	// What lies behind the end of the list is not read.
	spare := []byte{172, 2, 9}
	refuses(t, spare[:1], greatest)
}

// P2.2: five bytes are as many as there may be.
func TestGetFive(t *testing.T) {
	r := bits.New([]byte{255, 255, 255, 255, 127})
	wantGet(t, r, 1<<35-1, 1<<35-1)
	if !r.End() {
		t.Error("there is something left")
	}
	wantGet(t, bits.New([]byte{128, 128, 128, 128, 1}), 1<<28, 1<<28)
	for _, b := range [][]byte{
		{128, 128, 128, 128, 128, 0},
		{128, 128, 128, 128, 128, 1},
		{255, 255, 255, 255, 255, 1},
		digits(1 << 42),
		digits(math.MaxInt),
		bytes.Repeat([]byte{128}, 20),
		bytes.Repeat([]byte{255}, 20),
	} {
		refuses(t, b, greatest)
	}
}

// stands is the number at the beginning, by trying each size: its bytes are a
// number's if that number has just these.
func stands(b []byte) (n, size int) {
	weight := 1
	for i := range min(5, len(b)) {
		n += int(b[i]%128) * weight
		weight *= 128
		if bytes.Equal(digits(n), b[:i+1]) {
			return n, i + 1
		}
	}
	return 0, 0
}

// checkStands holds a Get, and what is left behind it, against stands.
func checkStands(t *testing.T, b []byte) {
	t.Helper()
	want, size := stands(b)
	r := bits.New(b)
	n := r.Get(greatest)
	if n != want || r.Bad() != (size == 0) || r.End() != (size > 0 && size == len(b)) {
		t.Errorf("New(%v).Get = %d, bad %v, end %v, want %d of %d bytes", b, n, r.Bad(), r.End(), want, size)
	}
}

// P2.2: all bytes up to two, and up to six of some.
func TestGetAgainstSizes(t *testing.T) {
	for i := range 256 {
		checkStands(t, []byte{byte(i)})
		for k := range 256 {
			checkStands(t, []byte{byte(i), byte(k)})
		}
	}
	some := []byte{0, 1, 15, 127, 128, 129, 255}
	lists := [][]byte{{}}
	for range 6 {
		var next [][]byte
		for _, b := range lists {
			for _, x := range some {
				next = append(next, append(bytes.Clone(b), x))
			}
		}
		lists = next
		for _, b := range lists {
			checkStands(t, b)
		}
	}
}

// P2.2: Long takes what Long puts, over all its edges, one after the other.
func TestLongAll(t *testing.T) {
	var b []byte
	for _, n := range signed() {
		alone := bits.New(digits(folded(n)))
		if got := alone.Long(); got != n || alone.Bad() || !alone.End() {
			t.Errorf("Long() = %d, bad %v, end %v, want %d", got, alone.Bad(), alone.End(), n)
		}
		b = bits.Long(b, n)
	}
	r := bits.New(b)
	for _, n := range signed() {
		if got := r.Long(); got != n || r.Bad() {
			t.Errorf("Long() = %d, bad %v, want %d", got, r.Bad(), n)
		}
	}
	if !r.End() {
		t.Error("there is something left")
	}
	refusesMore(t, r)
}

// P2.2: Long by Get of 2^32 - 1, and of what is no number.
func TestLongWrong(t *testing.T) {
	for _, b := range [][]byte{
		nil,
		{128},
		{128, 0},
		digits(1 << 32),
		digits(1<<32 + 1),
		digits(1<<35 - 1),
		digits(1 << 35),
		{255, 255, 255, 255, 15 + 128},
		{255, 255, 255, 255, 255, 1},
	} {
		r := bits.New(b)
		if n := r.Long(); n != 0 || !r.Bad() || r.End() {
			t.Errorf("New(%v).Long() = %d, bad %v, end %v", b, n, r.Bad(), r.End())
		}
		wantBad(t, r)
	}
}

// wantPlace holds End and Bad, which do not move a reader.
func wantPlace(t *testing.T, r *bits.Reader, end, bad bool) {
	t.Helper()
	for range 2 {
		if r.End() != end || r.Bad() != bad {
			t.Errorf("End() = %v, Bad() = %v, want %v, %v", r.End(), r.Bad(), end, bad)
		}
	}
}

// P2.2: End and Bad at the beginning, in the middle, and at the end.
func TestPlaces(t *testing.T) {
	wantPlace(t, bits.New(nil), true, false)
	wantPlace(t, bits.New([]byte{}), true, false)
	wantPlace(t, bits.New([]byte{128}), false, false)
	r := bits.New([]byte{5, 172, 2, 3})
	wantPlace(t, r, false, false)
	wantGet(t, r, greatest, 5)
	wantPlace(t, r, false, false)
	wantGet(t, r, greatest, 300)
	wantPlace(t, r, false, false)
	if n := r.Long(); n != -2 {
		t.Errorf("Long() = %d, want -2", n)
	}
	wantPlace(t, r, true, false)
	refusesMore(t, r)
	wantPlace(t, r, false, true)
}

// P2.2: one that is bad by its last bytes is not at its end.
func TestPlacesBad(t *testing.T) {
	for _, last := range [][]byte{{9}, {128}, {128, 0}} {
		r := bits.New(append([]byte{1}, last...))
		wantGet(t, r, greatest, 1)
		if n := r.Get(8); n != 0 {
			t.Errorf("Get(8) = %d", n)
		}
		wantPlace(t, r, false, true)
	}
}

// P2.2: a nil *Reader is bad; one without anything is as one of no bytes.
func TestNoReader(t *testing.T) {
	var r *bits.Reader
	wantPlace(t, r, false, true)
	wantBad(t, r)
	empty := &bits.Reader{}
	wantPlace(t, empty, true, false)
	refusesMore(t, empty)
}

// P2.2, and R4: a reader has bytes of its own, and leaves those handed in.
func TestReaderMemory(t *testing.T) {
	b := []byte{172, 2, 9, 200, 1}
	r := bits.New(b)
	wantGet(t, r, greatest, 300)
	clear(b)
	wantGet(t, r, greatest, 9)
	if n := r.Long(); n != 100 {
		t.Errorf("Long() = %d, want 100", n)
	}
	if !r.End() || !bytes.Equal(b, make([]byte, 5)) {
		t.Errorf("end %v, bytes %v", r.End(), b)
	}
	b = []byte{172, 2, 128, 0}
	r = bits.New(b)
	r.Get(greatest)
	r.Get(greatest)
	if !r.Bad() || !bytes.Equal(b, []byte{172, 2, 128, 0}) {
		t.Errorf("bad %v, bytes %v", r.Bad(), b)
	}
}

// P2.2, and R5: readers of the same bytes do not hang on each other.
func TestReadersApart(t *testing.T) {
	b := []byte{5, 6}
	one, two := bits.New(b), bits.New(b)
	wantGet(t, one, greatest, 5)
	one.Get(-1)
	wantBad(t, one)
	wantGet(t, two, greatest, 5)
	wantGet(t, two, greatest, 6)
	wantPlace(t, two, true, false)
}
