package mem_test

import (
	"fmt"
	"math"
	"slices"
	"testing"

	"plimsoll/api"
	"plimsoll/mem"
)

const (
	least = math.MinInt
	most  = math.MaxInt
)

// told is the beginning of something: long ones would hide what is wrong.
func told(x any) string {
	text := fmt.Sprint(x)
	return text[:min(len(text), 300)]
}

// nothings are so many cells of 0.
func nothings(n int) []int32 { return make([]int32, n) }

// wantGiven takes a region that has to have a number.
func wantGiven(t *testing.T, m *mem.Mem, cells, want int) {
	t.Helper()
	if n, ok := m.Give(cells); n != want || !ok {
		t.Errorf("Give(%d) = %d %v, want %d", cells, n, ok, want)
	}
}

// wantNotGiven holds Give to false, and to changing nothing.
func wantNotGiven(t *testing.T, m *mem.Mem, cells int) {
	t.Helper()
	before := all(m)
	if n, ok := m.Give(cells); n != 0 || ok {
		t.Errorf("Give(%d) = %d %v, want false", cells, n, ok)
	}
	if got := all(m); got != before {
		t.Errorf("Give(%d) is false, and makes %s of %s", cells, told(got), told(before))
	}
}

func wantDropped(t *testing.T, m *mem.Mem, list ...int) {
	t.Helper()
	for _, n := range list {
		if !m.Drop(n) {
			t.Errorf("Drop(%d) = false", n)
		}
	}
}

// wantNotDropped holds Drop to false, and to changing nothing.
func wantNotDropped(t *testing.T, m *mem.Mem, list ...int) {
	t.Helper()
	for _, n := range list {
		before := all(m)
		if m.Drop(n) {
			t.Errorf("Drop(%d) = true", n)
		}
		if got := all(m); got != before {
			t.Errorf("Drop(%d) is false, and makes %s of %s", n, told(got), told(before))
		}
	}
}

// wantAt holds a region to where it begins, and to what is in it.
func wantAt(t *testing.T, m *mem.Mem, n, place int, cells ...int32) {
	t.Helper()
	if p, ok := m.Place(n); p != place || !ok {
		t.Errorf("Place(%d) = %d %v, want %d", n, p, ok, place)
	}
	if got := m.Region(n); !slices.Equal(got, cells) || cap(got) != len(cells) {
		t.Errorf("Region(%d) = %s of %d, want %s", n, told(got), cap(got), told(cells))
	}
}

// wantNone holds that there are no regions of some numbers.
func wantNone(t *testing.T, m *mem.Mem, list ...int) {
	t.Helper()
	for _, n := range list {
		if p, ok := m.Place(n); p != 0 || ok {
			t.Errorf("Place(%d) = %d %v, want false", n, p, ok)
		}
		if got := m.Region(n); len(got) != 0 || cap(got) != 0 {
			t.Errorf("Region(%d) = %s of %d, want none", n, told(got), cap(got))
		}
	}
}

// wantTaken holds how many cells of the heap are regions', and how many are not.
func wantTaken(t *testing.T, m *mem.Mem, used, room int) {
	t.Helper()
	if m.Used() != used || m.Room() != room {
		t.Errorf("Used() = %d, Room() = %d, want %d, %d", m.Used(), m.Room(), used, room)
	}
}

// all is what the first numbers' regions, and the stack, are like.
func all(m *mem.Mem) string {
	text := fmt.Sprint(m.Used(), m.Room(), m.Stack())
	for n := range 12 {
		p, ok := m.Place(n)
		text += fmt.Sprint("; ", p, ok, m.Region(n))
	}
	return text
}

// three has regions 0, 1 and 2 of 2, 3 and 4 cells, and 5 more cells; what is in
// them tells whose they are.
func three(t *testing.T) *mem.Mem {
	t.Helper()
	m := mem.New(3, 14)
	for n, cells := range []int{2, 3, 4} {
		wantGiven(t, m, cells, n)
		for i := range cells {
			m.Region(n)[i] = int32(10*n + i + 1)
		}
	}
	copy(m.Stack(), []int32{91, 92, 93})
	return m
}

// P17.1: so many cells of each, from 0 to MaxArena, or the nearest one, all 0.
func TestNew(t *testing.T) {
	sizes := []struct{ said, want int }{
		{least, 0}, {-1 << 32, 0}, {-1, 0}, {0, 0}, {1, 1}, {2, 2}, {1000, 1000},
		{api.MaxArena - 1, api.MaxArena - 1}, {api.MaxArena, api.MaxArena}, {api.MaxArena + 1, api.MaxArena},
		{1 << 32, api.MaxArena}, {1<<32 + 5, api.MaxArena}, {most, api.MaxArena},
	}
	for _, s := range sizes {
		for _, h := range sizes {
			m := mem.New(s.said, h.said)
			if got := m.Stack(); !slices.Equal(got, nothings(s.want)) || cap(got) != s.want {
				t.Errorf("New(%d, %d): a stack of %d with room for %d, or not 0", s.said, h.said, len(got), cap(got))
			}
			wantTaken(t, m, 0, h.want)
			wantNone(t, m, least, -1, 0, 1, most)
			wantGiven(t, m, h.want, 0)
			wantTaken(t, m, h.want, 0)
			wantAt(t, m, 0, 0, nothings(h.want)...)
		}
	}
}

// P17.1: regions stand one behind the other, by the numbers from 0 on.
func TestGive(t *testing.T) {
	m := mem.New(0, 10)
	wantGiven(t, m, 3, 0)
	wantTaken(t, m, 3, 7)
	wantGiven(t, m, 1, 1)
	wantGiven(t, m, 5, 2)
	wantTaken(t, m, 9, 1)
	wantGiven(t, m, 1, 3)
	wantTaken(t, m, 10, 0)
	wantAt(t, m, 0, 0, nothings(3)...)
	wantAt(t, m, 1, 3, 0)
	wantAt(t, m, 2, 4, nothings(5)...)
	wantAt(t, m, 3, 9, 0)
	wantNone(t, m, -1, 4)
}

// P17.1: none below 0, none above Room; each one up to it.
func TestGiveEnds(t *testing.T) {
	for used := range 8 {
		for cells := range 10 {
			m := mem.New(2, 7)
			wantGiven(t, m, used, 0)
			if cells > 7-used {
				wantNotGiven(t, m, cells)
				continue
			}
			wantGiven(t, m, cells, 1)
			wantTaken(t, m, used+cells, 7-used-cells)
		}
	}
	m := three(t)
	for _, cells := range []int{least, least + 1, -1 << 32, -9, -1, 6, 14, 15, api.MaxArena, 1 << 32, 1<<32 + 5, most - 8, most} {
		wantNotGiven(t, m, cells)
	}
	wantNotGiven(t, mem.New(api.MaxArena, -1), 1)
	wantGiven(t, m, 5, 3)
	wantNotGiven(t, m, 1)
	wantNotGiven(t, m, -1)
}

// P17.1: the least number that none has, however many are free.
func TestNumbers(t *testing.T) {
	m := mem.New(0, 20)
	for n := range 6 {
		wantGiven(t, m, n, n)
	}
	wantDropped(t, m, 4, 1, 3)
	wantGiven(t, m, 1, 1)
	wantGiven(t, m, 0, 3)
	wantDropped(t, m, 0)
	wantGiven(t, m, 2, 0)
	wantGiven(t, m, 1, 4)
	wantGiven(t, m, 1, 6)
	wantDropped(t, m, 6, 5)
	wantGiven(t, m, 0, 5)
	wantGiven(t, m, 0, 6)
	wantGiven(t, m, 0, 7)
	// What was not given takes no number, nor does what was not dropped free one.
	wantDropped(t, m, 2)
	wantNotGiven(t, m, 21)
	wantNotDropped(t, m, 2, 8)
	wantGiven(t, m, 0, 2)
	wantNotDropped(t, m, 8)
	wantGiven(t, m, 0, 8)
	wantDropped(t, m, 8, 7, 6, 5, 4, 3, 2, 1, 0)
	for n := range 3 {
		wantGiven(t, m, 1, n)
	}
}

// P17.1: regions without cells are regions, also where there is no room at all.
func TestEmptyRegions(t *testing.T) {
	m := mem.New(4, 5)
	for n, cells := range []int{0, 2, 0, 0, 3, 0} {
		wantGiven(t, m, cells, n)
	}
	wantTaken(t, m, 5, 0)
	for n, place := range []int{0, 0, 2, 2, 2, 5} {
		if p, ok := m.Place(n); p != place || !ok {
			t.Errorf("Place(%d) = %d %v, want %d", n, p, ok, place)
		}
	}
	copy(m.Region(1), []int32{1, 2})
	copy(m.Region(4), []int32{3, 4, 5})
	wantAt(t, m, 0, 0)
	wantAt(t, m, 5, 5)
	// One that goes moves nothing.
	wantDropped(t, m, 2)
	wantNone(t, m, 2)
	wantAt(t, m, 3, 2)
	wantAt(t, m, 4, 2, 3, 4, 5)
	// They move with what goes ahead of them, and no others do.
	wantDropped(t, m, 1)
	wantAt(t, m, 0, 0)
	wantAt(t, m, 3, 0)
	wantAt(t, m, 4, 0, 3, 4, 5)
	wantAt(t, m, 5, 3)
	wantDropped(t, m, 4)
	wantAt(t, m, 0, 0)
	wantAt(t, m, 3, 0)
	wantAt(t, m, 5, 0)
	wantTaken(t, m, 0, 5)
	none := mem.New(0, 0)
	for n := range 1000 {
		wantGiven(t, none, 0, n)
	}
	wantNotGiven(t, none, 1)
	wantDropped(t, none, 500, 7)
	wantNone(t, none, 7, 500, 1000)
	wantAt(t, none, 999, 0)
	wantGiven(t, none, 0, 7)
	wantGiven(t, none, 0, 500)
	wantGiven(t, none, 0, 1000)
}

// P17.1: those behind one that goes move to the front, those ahead stay.
func TestDrop(t *testing.T) {
	m := three(t)
	wantDropped(t, m, 0)
	wantTaken(t, m, 7, 7)
	wantNone(t, m, 0)
	wantAt(t, m, 1, 0, 11, 12, 13)
	wantAt(t, m, 2, 3, 21, 22, 23, 24)
	m = three(t)
	wantDropped(t, m, 1)
	wantTaken(t, m, 6, 8)
	wantNone(t, m, 1)
	wantAt(t, m, 0, 0, 1, 2)
	wantAt(t, m, 2, 2, 21, 22, 23, 24)
	m = three(t)
	wantDropped(t, m, 2)
	wantTaken(t, m, 5, 9)
	wantNone(t, m, 2)
	wantAt(t, m, 0, 0, 1, 2)
	wantAt(t, m, 1, 2, 11, 12, 13)
	wantDropped(t, m, 0)
	wantAt(t, m, 1, 0, 11, 12, 13)
	wantDropped(t, m, 1)
	wantTaken(t, m, 0, 14)
	wantNone(t, m, 0, 1, 2)
	if got := m.Stack(); !slices.Equal(got, []int32{91, 92, 93}) {
		t.Errorf("Stack() = %v", got)
	}
}

// P17.1: what goes does so by its number, where its place is another one's.
func TestDropByNumber(t *testing.T) {
	m := three(t)
	wantDropped(t, m, 0)
	// Number 0 stands last now, with room for just all that is left.
	wantGiven(t, m, 7, 0)
	wantAt(t, m, 0, 7, nothings(7)...)
	copy(m.Region(0), []int32{1, 2, 3, 4, 5, 6, 7})
	wantDropped(t, m, 1)
	wantAt(t, m, 2, 0, 21, 22, 23, 24)
	wantAt(t, m, 0, 4, 1, 2, 3, 4, 5, 6, 7)
	wantGiven(t, m, 3, 1)
	wantAt(t, m, 1, 11, 0, 0, 0)
	wantDropped(t, m, 0)
	wantAt(t, m, 2, 0, 21, 22, 23, 24)
	wantAt(t, m, 1, 4, 0, 0, 0)
	wantTaken(t, m, 7, 7)
}

// P17.1: what is not there does not go, and stays away.
func TestDropNone(t *testing.T) {
	m := three(t)
	wantNotDropped(t, m, least, least+1, -1<<32, -1, 3, 4, 14, 1<<32, 1<<32+1, most)
	wantDropped(t, m, 1)
	wantNotDropped(t, m, 1, 1)
	wantDropped(t, m, 2)
	wantNotDropped(t, m, 2, 1, 3, -1)
	wantDropped(t, m, 0)
	wantNotDropped(t, m, 0, 1, 2)
	wantNotDropped(t, mem.New(5, 5), 0, 1, -1)
}

// P17.1: numbers far from all that there are have no region, and no place.
func TestNoneThere(t *testing.T) {
	m := three(t)
	wantNone(t, m, least, least+1, -1<<32, -3, -1, 3, 4, 13, 1<<32, 1<<32+2, most-1, most)
	wantNone(t, mem.New(5, 5), least, -1, 0, 1, most)
}

// P17.1: a region's cells are 0, whatever was in those that went, and whatever
// was written since to cells that were theirs.
func TestGivenZero(t *testing.T) {
	for n := range 3 {
		m := three(t)
		held := [][]int32{m.Region(0), m.Region(1), m.Region(2)}
		wantDropped(t, m, n)
		wantGiven(t, m, 14-m.Used(), n)
		if !slices.Equal(m.Region(n), nothings(len(m.Region(n)))) {
			t.Errorf("Region(%d) = %v, want 0", n, m.Region(n))
		}
		// Behind a Drop of all, all cells are free, whoever holds some.
		wantDropped(t, m, 0, 1, 2)
		for _, list := range held {
			for i := range list {
				list[i] = 77
			}
		}
		wantGiven(t, m, 14, 0)
		wantAt(t, m, 0, 0, nothings(14)...)
	}
}

// P17.1: what is answered is the cells themselves, and lists end where they do.
func TestCells(t *testing.T) {
	m := three(t)
	one, other := m.Region(1), m.Region(1)
	one[0], other[2] = math.MinInt32, math.MaxInt32
	wantAt(t, m, 1, 2, math.MinInt32, 12, math.MaxInt32)
	stack := m.Stack()
	stack[1] = math.MinInt32
	if got := m.Stack(); !slices.Equal(got, []int32{91, math.MinInt32, 93}) || cap(got) != 3 {
		t.Errorf("Stack() = %v of %d", got, cap(got))
	}
	// They stay the cells when others are given, or nothing goes.
	wantGiven(t, m, 5, 3)
	wantNotDropped(t, m, 4)
	one[1], stack[0] = 7, 8
	wantAt(t, m, 1, 2, math.MinInt32, 7, math.MaxInt32)
	if m.Stack()[0] != 8 {
		t.Errorf("Stack() = %v", m.Stack())
	}
	// What is put behind a list does not lie in what stands behind it.
	before := all(m)
	_ = append(append(m.Region(0), 55), m.Region(1)...)
	_ = append(m.Region(1), 55, 56, 57, 58)
	_ = append(m.Region(3), 55)
	_ = append(m.Stack(), 55, 56)
	if got := all(m); got != before {
		t.Errorf("%s becomes %s", before, got)
	}
	// Nor does it lie in cells that are free.
	wantDropped(t, m, 3)
	_ = append(m.Region(2), 55)
	wantGiven(t, m, 5, 3)
	wantAt(t, m, 3, 9, nothings(5)...)
}

// P17.1: behind a Drop a region's cells are those where it is now.
func TestCellsMove(t *testing.T) {
	m := three(t)
	wantDropped(t, m, 1)
	copy(m.Region(2), []int32{31, 32, 33, 34})
	m.Stack()[2] = 94
	wantAt(t, m, 0, 0, 1, 2)
	wantAt(t, m, 2, 2, 31, 32, 33, 34)
	wantDropped(t, m, 0)
	m.Region(2)[0] = 41
	wantAt(t, m, 2, 0, 41, 32, 33, 34)
	if got := m.Stack(); !slices.Equal(got, []int32{91, 92, 94}) {
		t.Errorf("Stack() = %v", got)
	}
}

// P17.1: nothing, false and 0 of a nil one, however often it is asked.
func TestNil(t *testing.T) {
	var m *mem.Mem
	for range 2 {
		for _, n := range []int{least, -1, 0, 1, 7, api.MaxArena, most} {
			wantNotGiven(t, m, n)
			wantNotDropped(t, m, n)
			wantNone(t, m, n)
		}
		wantTaken(t, m, 0, 0)
		if got := m.Stack(); len(got) != 0 || cap(got) != 0 {
			t.Errorf("Stack() = %v of %d", got, cap(got))
		}
	}
}

// R1: one that nobody made has no cells.
func TestZero(t *testing.T) {
	m := new(mem.Mem)
	wantTaken(t, m, 0, 0)
	wantNone(t, m, -1, 0, 1)
	wantNotDropped(t, m, -1, 0, 1)
	wantNotGiven(t, m, 1)
	wantGiven(t, m, 0, 0)
	wantAt(t, m, 0, 0)
	wantDropped(t, m, 0)
	if got := m.Stack(); len(got) != 0 || cap(got) != 0 {
		t.Errorf("Stack() = %v of %d", got, cap(got))
	}
}

// R4, R5: one shares nothing with another one.
func TestApart(t *testing.T) {
	one, other := three(t), three(t)
	before := all(other)
	for n := range 3 {
		for i := range one.Region(n) {
			one.Region(n)[i] = 66
		}
	}
	copy(one.Stack(), []int32{66, 66, 66})
	wantGiven(t, one, 1, 3)
	wantDropped(t, one, 0, 2)
	if got := all(other); got != before {
		t.Errorf("%s becomes %s", before, got)
	}
	wantGiven(t, other, 1, 3)
}

// words are a Mem by the chapter's words: regions one behind the other, each
// with cells of its own.
type words struct {
	heap  int
	stack []int32
	parts []part
}

// part is a region.
type part struct {
	n     int
	cells []int32
}

// place tells which region has a number, and where it begins.
func (w *words) place(n int) (which, place int, ok bool) {
	for i, p := range w.parts {
		if p.n == n {
			return i, place, true
		}
		place += len(p.cells)
	}
	return 0, 0, false
}

// used is all regions' cells.
func (w *words) used() int {
	sum := 0
	for _, p := range w.parts {
		sum += len(p.cells)
	}
	return sum
}

func (w *words) give(cells int) (int, bool) {
	if cells < 0 || cells > w.heap-w.used() {
		return 0, false
	}
	n := 0
	for _, _, has := w.place(n); has; _, _, has = w.place(n) {
		n++
	}
	w.parts = append(w.parts, part{n: n, cells: nothings(cells)})
	return n, true
}

func (w *words) drop(n int) bool {
	i, _, ok := w.place(n)
	if ok {
		w.parts = slices.Delete(w.parts, i, i+1)
	}
	return ok
}

// both are a Mem and its words, to which the same is done.
type both struct {
	m    *mem.Mem
	w    words
	did  []string
	next int32     // what was written last
	held [][]int32 // what was answered ahead of a Drop
}

// pair is both of so many cells.
func pair(stack, heap int) *both {
	return &both{m: mem.New(stack, heap), w: words{heap: heap, stack: nothings(stack)}}
}

// wrong tells of what went wrong behind all that was done, and ends the test:
// all else would be wrong, too.
func (b *both) wrong(t *testing.T, what ...any) {
	t.Helper()
	from := max(len(b.did)-20, 0)
	t.Fatalf("New(%d, %d)%v: %s", len(b.w.stack), b.w.heap, b.did[from:], told(fmt.Sprintln(what...)))
}

// give gives to both. Cells that were somebody's are written to ahead of it.
func (b *both) give(t *testing.T, cells int) {
	t.Helper()
	b.did = append(b.did, fmt.Sprint("Give ", cells))
	for _, list := range b.held {
		for i := range list {
			list[i] = -1
		}
	}
	b.held = nil
	b.paint()
	n, ok := b.m.Give(cells)
	if want, has := b.w.give(cells); n != want || ok != has {
		b.wrong(t, n, ok, "want", want, has)
	}
	b.compare(t)
}

// drop drops of both.
func (b *both) drop(t *testing.T, n int) {
	t.Helper()
	b.did = append(b.did, fmt.Sprint("Drop ", n))
	b.paint()
	for _, p := range b.w.parts {
		b.held = append(b.held, b.m.Region(p.n))
	}
	ok := b.m.Drop(n)
	if want := b.w.drop(n); ok != want {
		b.wrong(t, ok, "want", want)
	}
	b.compare(t)
}

// paint writes something new to each cell of both, and to the stack.
func (b *both) paint() {
	write := func(one, other []int32) {
		for i := range one {
			b.next++
			one[i], other[i] = b.next, b.next
		}
	}
	write(b.m.Stack(), b.w.stack)
	for _, p := range b.w.parts {
		write(b.m.Region(p.n), p.cells)
	}
}

// compare holds all that a Mem tells against the words.
func (b *both) compare(t *testing.T) {
	t.Helper()
	used := b.w.used()
	if b.m.Used() != used || b.m.Room() != b.w.heap-used {
		b.wrong(t, "Used, Room:", b.m.Used(), b.m.Room(), "want", used)
	}
	if got := b.m.Stack(); !slices.Equal(got, b.w.stack) || cap(got) != len(b.w.stack) {
		b.wrong(t, "Stack:", got, cap(got), "want", b.w.stack)
	}
	for n := -1; n <= len(b.w.parts)+3; n++ {
		i, place, ok := b.w.place(n)
		var cells []int32
		if ok {
			cells = b.w.parts[i].cells
		}
		if p, has := b.m.Place(n); p != place || has != ok {
			b.wrong(t, "Place", n, ":", p, has, "want", place, ok)
		}
		if got := b.m.Region(n); !slices.Equal(got, cells) || cap(got) != len(cells) {
			b.wrong(t, "Region", n, ":", cap(got), got, "want", cells)
		}
	}
}

// P17.1: all that may be done in up to five steps to a heap of three cells.
func TestAllShort(t *testing.T) {
	type step struct{ give, n int }
	var steps []step
	for n := -1; n <= 4; n++ {
		steps = append(steps, step{1, n}, step{0, n})
	}
	const deep = 5
	var from func(way []step)
	from = func(way []step) {
		b := pair(2, 3)
		for _, s := range way {
			if s.give == 1 {
				b.give(t, s.n)
			} else {
				b.drop(t, s.n)
			}
		}
		if len(way) == deep {
			return
		}
		for _, s := range steps {
			from(append(slices.Clip(way), s))
		}
	}
	// Something has to be there ahead of anything else that goes.
	for cells := range 4 {
		from([]step{{1, cells}})
	}
}

// mixed are numbers below a limit, each made of the one ahead of it.
func mixed(seed uint64) func(int) int {
	return func(limit int) int {
		seed = seed*6364136223846793005 + 1442695040888963407
		return int(seed >> 33 % uint64(limit))
	}
}

// P17.1: long ones of mixed steps, on small and on great heaps.
func TestMixed(t *testing.T) {
	next := mixed(17)
	for _, heap := range []int{0, 1, 2, 5, 17, 100, 1000} {
		for range 20 {
			b := pair(next(5), heap)
			for range 100 {
				b.step(t, next)
			}
		}
	}
	b := pair(api.MaxArena, api.MaxArena)
	for range 40 {
		b.step(t, next)
	}
}

// step is a mixed one: more of Give while there are few, and seldom what is none.
func (b *both) step(t *testing.T, next func(int) int) {
	t.Helper()
	room := b.m.Room()
	switch many := len(b.w.parts); {
	case next(20) == 0:
		b.give(t, room+1-next(3))
	case next(20) == 0:
		b.drop(t, many+next(3)-1)
	case many == 0 || next(12) > many:
		b.give(t, next(room/2+2))
	default:
		b.drop(t, b.w.parts[next(many)].n)
	}
}

// P17.1: as many regions as there may be cells, of which some go.
func TestFull(t *testing.T) {
	m := mem.New(0, api.MaxArena)
	for n := range api.MaxArena {
		wantGiven(t, m, 1, n)
		m.Region(n)[0] = int32(n)
	}
	wantNotGiven(t, m, 1)
	wantTaken(t, m, api.MaxArena, 0)
	for n := range 100 {
		wantDropped(t, m, 600*n)
	}
	wantTaken(t, m, api.MaxArena-100, 100)
	// 600 times n is gone, for n up to 99.
	for n := range api.MaxArena {
		if n%600 == 0 && n < 60000 {
			wantNone(t, m, n)
			continue
		}
		wantAt(t, m, n, n-min(n/600+1, 100), int32(n))
	}
	for n := range 100 {
		wantGiven(t, m, 1, 600*n)
		wantAt(t, m, 600*n, api.MaxArena-100+n, 0)
	}
	wantGiven(t, m, 0, api.MaxArena)
	wantNotGiven(t, m, 1)
}

// R5: the same calls answer the same, whatever others do in between.
func TestAgain(t *testing.T) {
	run := func() []string {
		next := mixed(5)
		m := mem.New(2, 40)
		var list []string
		for range 300 {
			if next(2) == 0 {
				n, ok := m.Give(next(12))
				list = append(list, fmt.Sprint(n, ok))
			} else {
				list = append(list, fmt.Sprint(m.Drop(next(8))))
			}
			list = append(list, all(m))
		}
		return list
	}
	first := run()
	three(t)
	if again := run(); !slices.Equal(again, first) {
		t.Error("the same calls answer something else")
	}
}
