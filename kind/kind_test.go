package kind_test

import (
	"math"
	"slices"
	"testing"

	"plimsoll/api"
	"plimsoll/kind"
)

var (
	zero = api.Type{}
	num  = api.Type{Kind: api.Int}
	arr  = api.Type{Kind: api.Arr}
	null = api.Type{Kind: api.Null}
	void = api.Type{Kind: api.Void}
)

// of is a type by its kind and number.
func of(kind, n int) api.Type { return api.Type{Kind: kind, N: n} }

func ref(n int) api.Type { return of(api.Ref, n) }

// supers are classes of which just the Super is told.
func supers(list ...int) []api.Class {
	var all []api.Class
	for _, s := range list {
		all = append(all, api.Class{Super: s})
	}
	return all
}

// family has two tops of several classes each, 0 and 5, and classes whose
// Super does not count.
//
//	0          5     8: its own number
//	|-1-2-9    |-6   10, 12: a greater one
//	`-3-4      `-7   11: the least number; 13: one beyond the list
func family() []api.Class {
	return supers(-1, 0, 1, 0, 3, -1, 5, 5, 8, 2, 12, math.MinInt, 13, 99)
}

// wayUp is a class, what stands above it, above that, and so on, by the words
// of the chapter; nothing of what is no class.
func wayUp(list []api.Class, c int) []int {
	if c < 0 || c >= len(list) {
		return nil
	}
	way := []int{c}
	if s := list[c].Super; 0 <= s && s <= c-1 {
		way = append(way, wayUp(list, s)...)
	}
	return way
}

// fits is Sub, by the words of the chapter.
func fits(list []api.Class, a, b api.Type) bool {
	nothing := a.Kind == api.Null && slices.Contains([]int{api.Arr, api.Ref, api.Null}, b.Kind)
	thing := a.Kind == api.Ref && b.Kind == api.Ref && slices.Contains(wayUp(list, a.N), b.N)
	same := (a.Kind == api.Int || a.Kind == api.Arr) && a.Kind == b.Kind && a.N == b.N
	return nothing || thing || same
}

// least is Join, by the words of the chapter.
func least(list []api.Class, a, b api.Type) api.Type {
	if fits(list, a, b) {
		return b
	}
	if fits(list, b, a) {
		return a
	}
	if a.Kind == api.Ref && b.Kind == api.Ref {
		for _, c := range wayUp(list, a.N) {
			if slices.Contains(wayUp(list, b.N), c) {
				return ref(c)
			}
		}
	}
	return zero
}

func wantBelow(t *testing.T, list []api.Class, a, b int, want bool) {
	t.Helper()
	if got := kind.Below(list, a, b); got != want {
		t.Errorf("Below(%v, %d, %d) = %v", list, a, b, got)
	}
}

func wantPair(t *testing.T, list []api.Class, a, b api.Type, sub bool, join api.Type) {
	t.Helper()
	if got := kind.Sub(list, a, b); got != sub {
		t.Errorf("Sub(%v, %v, %v) = %v", list, a, b, got)
	}
	if got := kind.Join(list, a, b); got != join {
		t.Errorf("Join(%v, %v, %v) = %v, want %v", list, a, b, got, join)
	}
}

// odd are numbers of no kind.
func odd() []int {
	return []int{math.MinInt, -1, 6, 7, 255, 256 + api.Int, 1<<32 + api.Ref, math.MaxInt}
}

// P3.1: Int and Arr are good with N 0 alone, whatever classes there are.
func TestGoodPlain(t *testing.T) {
	for _, classes := range []int{math.MinInt, -1, 0, 1, 8, math.MaxInt} {
		for _, k := range []int{api.Int, api.Arr} {
			for _, n := range []int{math.MinInt, -1, 0, 1, 7, 8, math.MaxInt} {
				if got := kind.Good(of(k, n), classes); got != (n == 0) {
					t.Errorf("Good(%v, %d) = %v", of(k, n), classes, got)
				}
			}
		}
	}
}

// P3.1: Ref is good of just the classes that there are.
func TestGoodRef(t *testing.T) {
	for _, x := range []struct {
		n, classes int
		want       bool
	}{
		{0, 1, true}, {0, 8, true}, {1, 2, true}, {6, 8, true}, {7, 8, true},
		{math.MaxInt - 1, math.MaxInt, true},
		{1, 1, false}, {8, 8, false}, {9, 8, false}, {math.MaxInt, math.MaxInt, false},
		{-1, 1, false}, {-1, 8, false}, {math.MinInt, 8, false}, {math.MinInt, math.MaxInt, false},
		{0, 0, false}, {-1, 0, false}, {1, 0, false},
		{0, -1, false}, {-1, -1, false}, {-2, -1, false}, {-2, math.MinInt, false}, {math.MinInt, math.MinInt, false},
	} {
		if got := kind.Good(ref(x.n), x.classes); got != x.want {
			t.Errorf("Good(%v, %d) = %v", ref(x.n), x.classes, got)
		}
	}
}

// P3.1: no other kind is good.
func TestGoodOthers(t *testing.T) {
	for _, k := range append(odd(), api.None, api.Null, api.Void) {
		for _, n := range []int{-1, 0, 1, 5} {
			for _, classes := range []int{-1, 0, 1, 8} {
				if kind.Good(of(k, n), classes) {
					t.Errorf("Good(%v, %d) = true", of(k, n), classes)
				}
			}
		}
	}
}

// P3.1: IsRef asks for the kind alone.
func TestIsRef(t *testing.T) {
	kinds := append(odd(), api.None, api.Int, api.Arr, api.Ref, api.Null, api.Void)
	for _, k := range kinds {
		for _, n := range []int{math.MinInt, -1, 0, 1, 8, math.MaxInt} {
			want := k == 2 || k == 3 || k == 4
			if got := kind.IsRef(of(k, n)); got != want {
				t.Errorf("IsRef(%v) = %v", of(k, n), got)
			}
		}
	}
}

// P3.1: a class is Below itself, and all on its way up.
func TestBelowUp(t *testing.T) {
	list := family()
	for c := range list {
		wantBelow(t, list, c, c, true)
	}
	for _, x := range [][2]int{{1, 0}, {2, 1}, {2, 0}, {9, 2}, {9, 1}, {9, 0}, {3, 0}, {4, 3}, {4, 0}, {6, 5}, {7, 5}} {
		wantBelow(t, list, x[0], x[1], true)
		wantBelow(t, list, x[1], x[0], false)
	}
}

// P3.1: a class is not Below those on another way up, or of another top.
func TestBelowAside(t *testing.T) {
	list := family()
	for _, x := range [][2]int{{1, 3}, {2, 3}, {4, 1}, {4, 2}, {9, 3}, {9, 4}, {6, 7}, {5, 0}, {6, 0}, {7, 4}, {9, 5}} {
		wantBelow(t, list, x[0], x[1], false)
		wantBelow(t, list, x[1], x[0], false)
	}
}

// P3.1: numbers that are no classes are Below nothing, themselves included.
func TestBelowNoClass(t *testing.T) {
	for _, list := range [][]api.Class{family(), supers(-1), supers(0), supers(-2, -1, 5), {}, nil} {
		n := len(list)
		for _, c := range []int{math.MinInt, -2, -1, n, n + 1, 99, math.MaxInt} {
			wantBelow(t, list, c, c, false)
			wantBelow(t, list, c, -1, false)
			for k := range n {
				wantBelow(t, list, c, k, false)
				wantBelow(t, list, k, c, false)
			}
		}
		wantBelow(t, list, n, n+1, false)
		wantBelow(t, list, -2, -1, false)
		wantBelow(t, list, -1, -2, false)
	}
}

// P3.1: nothing stands above a class whose Super is its own number, a greater
// one, below 0, or beyond the list.
func TestBelowNothingAbove(t *testing.T) {
	for _, s := range []int{math.MinInt, -2, -1, 2, 3, 4, 5, 6, 99, math.MaxInt} {
		list := supers(-1, 0, s, 2, 0)
		for c := -1; c <= 6; c++ {
			wantBelow(t, list, 2, c, c == 2)
			wantBelow(t, list, 3, c, c == 2 || c == 3)
		}
	}
	wantBelow(t, supers(-1, 0, 0), 2, 0, true)
	wantBelow(t, supers(-1, 0, 1), 2, 1, true)
	// Classes one above the other in a ring: just the falling ones count.
	ring := supers(1, 0)
	wantBelow(t, ring, 0, 1, false)
	wantBelow(t, ring, 1, 0, true)
	wide := supers(2, 0, 1)
	wantBelow(t, wide, 0, 2, false)
	wantBelow(t, wide, 0, 1, false)
	wantBelow(t, wide, 2, 0, true)
}

// P3.2: all pairs of kinds, by their numbers: which fit, and what both fit.
func TestPairsOfKinds(t *testing.T) {
	list := supers(-1, 0)
	types := []api.Type{zero, num, arr, ref(1), null, void}
	sub := []string{
		"......",
		".x....",
		"..x...",
		"...x..",
		"..xxx.",
		"......",
	}
	// The types are told by their kinds, "." being the zero type.
	join := []string{
		"......",
		".1....",
		"..2.2.",
		"...33.",
		"..234.",
		"......",
	}
	for i, a := range types {
		for k, b := range types {
			want := zero
			if c := join[i][k]; c != '.' {
				want = types[c-'0']
			}
			wantPair(t, list, a, b, sub[i][k] == 'x', want)
		}
	}
}

// P3.2: what is of no kind fits nowhere, and nothing fits it.
func TestPairsOfNoKind(t *testing.T) {
	list := family()
	for _, k := range append(odd(), api.None, api.Void) {
		for _, n := range []int{-1, 0, 1} {
			a := of(k, n)
			wantPair(t, list, a, a, false, zero)
			for _, b := range []api.Type{zero, num, arr, ref(n), ref(0), null, void, of(k, 2)} {
				wantPair(t, list, a, b, false, zero)
				wantPair(t, list, b, a, false, zero)
			}
		}
	}
}

// P3.2: Int and Arr fit where the same is wanted, N and all.
func TestPairsOtherN(t *testing.T) {
	list := family()
	for _, k := range []int{api.Int, api.Arr} {
		for _, n := range []int{math.MinInt, -1, 0, 1, 8, math.MaxInt} {
			wantPair(t, list, of(k, n), of(k, n), true, of(k, n))
			for _, m := range []int{-3, 2, 7} {
				wantPair(t, list, of(k, n), of(k, m), false, zero)
				wantPair(t, list, of(k, m), of(k, n), false, zero)
			}
			wantPair(t, list, of(k, n), ref(n), false, zero)
			wantPair(t, list, ref(n), of(k, n), false, zero)
			wantPair(t, list, of(k, n), of(3-k, n), false, zero)
		}
	}
}

// P3.2: Null fits where anything that IsRef is wanted, whatever its N, and
// nothing but it fits where it is wanted.
func TestPairsNull(t *testing.T) {
	for _, list := range [][]api.Class{family(), {}, nil} {
		for _, n := range []int{math.MinInt, -1, 0, 1, 8, 13, 14, math.MaxInt} {
			for _, b := range []api.Type{of(api.Arr, n), ref(n)} {
				wantPair(t, list, null, b, true, b)
				wantPair(t, list, b, null, false, b)
				wantPair(t, list, of(api.Null, 3), b, true, b)
				wantPair(t, list, b, of(api.Null, 3), false, b)
			}
			wantPair(t, list, null, of(api.Null, n), true, of(api.Null, n))
			wantPair(t, list, of(api.Null, n), null, true, null)
			wantPair(t, list, null, of(api.Int, n), false, zero)
			wantPair(t, list, of(api.Int, n), null, false, zero)
		}
	}
}

// P3.2: Refs of classes that are not there.
func TestPairsNoClass(t *testing.T) {
	for _, list := range [][]api.Class{family(), supers(-1), {}, nil} {
		n := len(list)
		for _, c := range []int{math.MinInt, -2, -1, n, n + 1, 99, math.MaxInt} {
			wantPair(t, list, ref(c), ref(c), false, zero)
			wantPair(t, list, ref(c), ref(c-1), false, zero)
			for k := range n {
				wantPair(t, list, ref(c), ref(k), false, zero)
				wantPair(t, list, ref(k), ref(c), false, zero)
			}
			wantPair(t, list, ref(c), arr, false, zero)
			wantPair(t, list, arr, ref(c), false, zero)
			wantPair(t, list, ref(c), num, false, zero)
			wantPair(t, list, num, ref(c), false, zero)
		}
	}
}

// P3.2: Refs on one way up: the upper one is what both fit.
func TestPairsOneWay(t *testing.T) {
	list := family()
	for c := range list {
		wantPair(t, list, ref(c), ref(c), true, ref(c))
	}
	for _, x := range [][2]int{{1, 0}, {2, 1}, {2, 0}, {9, 2}, {9, 1}, {9, 0}, {3, 0}, {4, 3}, {4, 0}, {6, 5}, {7, 5}} {
		wantPair(t, list, ref(x[0]), ref(x[1]), true, ref(x[1]))
		wantPair(t, list, ref(x[1]), ref(x[0]), false, ref(x[1]))
	}
}

// P3.2: Refs on two ways up: the nearest class above both, or none.
func TestPairsTwoWays(t *testing.T) {
	list := family()
	for _, x := range [][3]int{{1, 3, 0}, {2, 3, 0}, {2, 4, 0}, {1, 4, 0}, {9, 4, 0}, {9, 3, 0}, {6, 7, 5}} {
		wantPair(t, list, ref(x[0]), ref(x[1]), false, ref(x[2]))
		wantPair(t, list, ref(x[1]), ref(x[0]), false, ref(x[2]))
	}
	for _, x := range [][2]int{{0, 5}, {9, 5}, {4, 7}, {2, 6}, {0, 8}, {8, 10}, {10, 12}, {11, 12}, {12, 13}, {13, 0}, {8, 7}} {
		wantPair(t, list, ref(x[0]), ref(x[1]), false, zero)
		wantPair(t, list, ref(x[1]), ref(x[0]), false, zero)
	}
	// More than one class is above both: the nearest is neither the top, nor
	// the one that stands right above.
	deep := supers(-1, 0, 1, 2, 1, 3, 4, 2)
	for _, x := range [][3]int{{5, 6, 1}, {3, 4, 1}, {5, 4, 1}, {5, 7, 2}, {3, 7, 2}, {6, 7, 1}} {
		wantPair(t, deep, ref(x[0]), ref(x[1]), false, ref(x[2]))
		wantPair(t, deep, ref(x[1]), ref(x[0]), false, ref(x[2]))
	}
}

// P3.2: no classes at all.
func TestPairsWithoutClasses(t *testing.T) {
	for _, list := range [][]api.Class{{}, nil} {
		for n := -2; n <= 2; n++ {
			wantBelow(t, list, n, n, false)
			wantPair(t, list, ref(n), ref(n), false, zero)
			wantPair(t, list, null, ref(n), true, ref(n))
		}
		wantPair(t, list, num, num, true, num)
		wantPair(t, list, arr, arr, true, arr)
		wantPair(t, list, null, arr, true, arr)
		wantPair(t, list, null, null, true, null)
		wantPair(t, list, num, arr, false, zero)
	}
}

// lists are all of so many classes, with each Super from -2 to one beyond.
func lists(n int) [][]api.Class {
	all := [][]api.Class{nil}
	for range n {
		var next [][]api.Class
		for _, list := range all {
			for s := -2; s <= n+1; s++ {
				next = append(next, append(slices.Clone(list), api.Class{Super: s}))
			}
		}
		all = next
	}
	return all
}

// P3.1, P3.2: all pairs, of all lists of up to four classes, against the words.
func TestAllSmallLists(t *testing.T) {
	for n := range 5 {
		types := []api.Type{zero, num, of(api.Int, 1), arr, of(api.Arr, 1), null, of(api.Null, 1), void, of(6, 0)}
		for c := -1; c <= n+1; c++ {
			types = append(types, ref(c))
		}
		for _, list := range lists(n) {
			for a := -1; a <= n+1; a++ {
				for b := -1; b <= n+1; b++ {
					wantBelow(t, list, a, b, slices.Contains(wayUp(list, a), b))
				}
			}
			for _, a := range types {
				for _, b := range types {
					wantPair(t, list, a, b, fits(list, a, b), least(list, a, b))
				}
			}
		}
	}
}

// R1, R8: two ways up far longer than an applet's, which part at once.
func TestLongWays(t *testing.T) {
	const n = 200001
	var all []int
	for c := range n {
		all = append(all, c-2)
	}
	all[2] = 1
	list := supers(all...)
	wantBelow(t, list, n-1, 0, false)
	all[1] = 0
	list = supers(all...)
	for _, x := range []struct {
		a, b int
		want bool
	}{{n - 1, 0, true}, {n - 2, 0, true}, {n - 1, 2, true}, {n - 1, 3, false}, {n - 2, 2, false}, {0, n - 1, false}} {
		if got := kind.Below(list, x.a, x.b); got != x.want {
			t.Errorf("Below(%d, %d) of long ways = %v", x.a, x.b, got)
		}
	}
	if got := kind.Join(list, ref(n-1), ref(n-2)); got != ref(1) {
		t.Errorf("Join of long ways = %v", got)
	}
}

// R4: the classes that are handed in stay as they are, spare room included.
func TestKeepsClasses(t *testing.T) {
	full := func() []api.Class {
		list := family()
		for c := range list {
			list[c].Fields = []api.Type{num, ref(c)}
			list[c].Slots = []int{c, 1}
		}
		return list
	}
	list, want := full(), full()
	for a := -1; a <= len(list); a++ {
		for b := -1; b <= len(list); b++ {
			kind.Below(list[:10], a, b)
			kind.Sub(list[:10], ref(a), ref(b))
			kind.Join(list[:10], ref(a), ref(b))
		}
	}
	for c := range want {
		same := list[c].Super == want[c].Super && slices.Equal(list[c].Fields, want[c].Fields) && slices.Equal(list[c].Slots, want[c].Slots)
		if !same {
			t.Errorf("class %d: %v, was %v", c, list[c], want[c])
		}
	}
	// What lies behind the end of the list is no class.
	wantBelow(t, list[:2], 2, 1, false)
	wantPair(t, list[:2], ref(2), ref(1), false, zero)
}
