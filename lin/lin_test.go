package lin_test

import (
	"fmt"
	"math"
	"math/big"
	"slices"
	"testing"

	"plimsoll/api"
	"plimsoll/lin"
)

// top is the least number above 0 that is too great.
const top = 1 << 62

// ends are numbers around all that is too great, and around what has a product
// that is.
var ends = []int{
	0, 1, -1, 2, -2, 3, 1<<31 - 1, 1 << 31, -1 << 31, 1<<31 + 1, 1 << 32,
	1 << 61, -1 << 61, top - 1, 1 - top, top, -top, math.MaxInt, math.MinInt,
}

// q is an inequality.
func q(most int, coef ...int) api.Ineq { return api.Ineq{Coef: coef, Most: most} }

// list are some inequalities.
func list(all ...api.Ineq) []api.Ineq { return all }

// told is the beginning of something: long ones would hide what is wrong.
func told(x any) string {
	text := fmt.Sprint(x)
	return text[:min(len(text), 300)]
}

func same(a, b api.Ineq) bool {
	return slices.Equal(a.Coef, b.Coef) && a.Most == b.Most
}

func wantSum(t *testing.T, all []api.Ineq, times []int, vars int, want api.Ineq) {
	t.Helper()
	if got, e := lin.Sum(all, times, vars); e != api.OK || !same(got, want) {
		t.Errorf("Sum(%s, %s, %d) = %s %d, want %s", told(all), told(times), vars, told(got), e, told(want))
	}
}

// wantNoSum holds Sum to ErrLin, and nothing beside it.
func wantNoSum(t *testing.T, all []api.Ineq, times []int, vars int) {
	t.Helper()
	if got, e := lin.Sum(all, times, vars); e != api.ErrLin || len(got.Coef) != 0 || got.Most != 0 {
		t.Errorf("Sum(%s, %s, %d) = %s %d, want ErrLin", told(all), told(times), vars, told(got), e)
	}
}

func wantImplies(t *testing.T, a, b api.Ineq, want bool) {
	t.Helper()
	if got := lin.Implies(a, b); got != want {
		t.Errorf("Implies(%s, %s) = %v", told(a), told(b), got)
	}
}

func wantProves(t *testing.T, all []api.Ineq, times []int, what api.Ineq, want bool) {
	t.Helper()
	if got := lin.Proves(all, times, what); got != want {
		t.Errorf("Proves(%s, %s, %s) = %v", told(all), told(times), told(what), got)
	}
}

func wantHolds(t *testing.T, x api.Ineq, at []int, want bool) {
	t.Helper()
	if got, e := lin.Holds(x, at); e != api.OK || got != want {
		t.Errorf("Holds(%s, %s) = %v %d, want %v", told(x), told(at), got, e, want)
	}
}

// wantNeither holds Holds to ErrLin, and false beside it.
func wantNeither(t *testing.T, x api.Ineq, at []int) {
	t.Helper()
	if got, e := lin.Holds(x, at); e != api.ErrLin || got {
		t.Errorf("Holds(%s, %s) = %v %d, want ErrLin", told(x), told(at), got, e)
	}
}

// P14.1: each inequality so many times, its Most, too.
func TestSum(t *testing.T) {
	all := list(q(-3, 1, -1), q(5, 0, 2))
	wantSum(t, all, []int{2, 1}, 2, q(-1, 2, 0))
	wantSum(t, all, []int{1, 0}, 2, q(-3, 1, -1))
	wantSum(t, all, []int{0, 3}, 2, q(15, 0, 6))
	wantSum(t, all, []int{0, 0}, 2, q(0, 0, 0))
	wantSum(t, all, []int{1000000, 7}, 2, q(-2999965, 1000000, -999986))
	wantSum(t, list(q(1, 2, 3, 5), q(7, 11, 13, 17), q(19, 23, 29, 31)), []int{1, 10, 100}, 3, q(1971, 2412, 3033, 3275))
	wantSum(t, list(q(4, -6), q(4, -6)), []int{1, 1}, 1, q(8, -12))
}

// P14.1: of none, as many variables as asked for, from 0 to MaxCode.
func TestSumOfNone(t *testing.T) {
	for _, vars := range []int{0, 1, 2, 63, 64} {
		wantSum(t, nil, nil, vars, q(0, make([]int, vars)...))
		wantSum(t, list(), []int{}, vars, q(0, make([]int, vars)...))
	}
	for _, vars := range []int{math.MinInt, -65, -64, -1, 65, 66, 1 << 40, math.MaxInt} {
		wantNoSum(t, nil, nil, vars)
		wantNoSum(t, list(q(0)), []int{0}, vars)
		wantNoSum(t, list(q(0, make([]int, 65)...)), []int{1}, vars)
	}
}

// P14.1: also without variables, inequalities say something.
func TestSumWithoutVariables(t *testing.T) {
	wantSum(t, list(q(-3), q(5)), []int{2, 3}, 0, q(9))
	wantNoSum(t, list(q(1)), []int{top}, 0)
	wantNoSum(t, list(q(top)), []int{1}, 0)
	wantNoSum(t, list(q(1)), []int{-1}, 0)
}

// P14.1: as many variables as there may be.
func TestSumOfManyVariables(t *testing.T) {
	one, other, want := q(1), q(2), q(10)
	for v := range api.MaxCode {
		one.Coef = append(one.Coef, v)
		other.Coef = append(other.Coef, v*v-100)
		want.Coef = append(want.Coef, 4*v+3*(v*v-100))
	}
	wantSum(t, list(one, other), []int{4, 3}, 64, want)
	for v := range one.Coef {
		x := q(1, slices.Clone(one.Coef)...)
		x.Coef[v] = -top
		wantNoSum(t, list(x, other), []int{4, 3}, 64)
	}
}

// P14.1: as many times as inequalities.
func TestSumTimesLack(t *testing.T) {
	all := list(q(-3, 1, -1), q(5, 0, 2))
	wantNoSum(t, all, nil, 2)
	wantNoSum(t, all, []int{1}, 2)
	wantNoSum(t, all, []int{1, 1, 1}, 2)
	wantNoSum(t, all, []int{1, 1, 0}, 2)
	wantNoSum(t, nil, []int{0}, 2)
	wantNoSum(t, nil, []int{0}, 0)
	wantNoSum(t, list(q(0)), nil, 0)
}

// P14.1: no times below 0, wherever it stands, and whatever it would come to.
func TestSumTimesBelowZero(t *testing.T) {
	for _, below := range []int{-1, -2, 1 - top, -top, math.MinInt} {
		for k := range 3 {
			times := []int{1, 1, 1}
			times[k] = below
			wantNoSum(t, list(q(1, 1), q(2, 2), q(3, 3)), times, 1)
			wantNoSum(t, list(q(0, 0), q(0, 0), q(0, 0)), times, 1)
		}
	}
}

// P14.1: each one has as many Coef as there are variables, also 0 times.
func TestSumCoefLack(t *testing.T) {
	for k := range 3 {
		for _, coef := range [][]int{nil, {0}, {1}, {0, 0, 0}, {1, 2, 0}} {
			for _, often := range []int{0, 1} {
				all, times := list(q(1, 1, 4), q(2, 2, 5), q(3, 3, 6)), []int{1, 1, 1}
				all[k].Coef, times[k] = coef, often
				wantNoSum(t, all, times, 2)
			}
		}
	}
	wantNoSum(t, list(q(1, 1)), []int{1}, 0)
	wantNoSum(t, list(q(1, 1)), []int{1}, 2)
}

// P14.1: what is handed in may be too great by itself, also where it would not
// count.
func TestSumHandedIn(t *testing.T) {
	for _, n := range []int{top, top + 1, -top, -top - 1, math.MaxInt, math.MinInt} {
		for _, often := range []int{0, 1, 2, 4} {
			wantNoSum(t, list(q(0, n)), []int{often}, 1)
			wantNoSum(t, list(q(n, 0)), []int{often}, 1)
			wantNoSum(t, list(q(0, 0, 0, n), q(0, 0, 0, -1)), []int{often, 1}, 3)
			wantNoSum(t, list(q(0, 0), q(n, 0)), []int{1, often}, 1)
		}
		if n > 0 {
			wantNoSum(t, list(q(0, 0)), []int{n}, 1)
			wantNoSum(t, list(q(0, 0), q(0, 0)), []int{0, n}, 1)
		}
	}
	for _, n := range []int{top - 1, 1 - top} {
		wantSum(t, list(q(0, n)), []int{1}, 1, q(0, n))
		wantSum(t, list(q(n, 0)), []int{1}, 1, q(n, 0))
		wantSum(t, list(q(n, n)), []int{0}, 1, q(0, 0))
	}
	wantSum(t, list(q(0, 0)), []int{top - 1}, 1, q(0, 0))
	wantSum(t, list(q(1, -1)), []int{top - 1}, 1, q(top-1, 1-top))
}

// P14.1: products that are too great, those among them that wrap round to
// something small, or to nothing.
func TestSumProducts(t *testing.T) {
	for _, x := range []struct{ n, often int }{
		{1 << 31, 1 << 31}, {1 << 32, 1 << 32}, {1 << 61, 2}, {1 << 61, 4}, {1 << 61, 8}, {top - 1, 2},
		{top - 1, 3}, {top - 1, 4}, {top - 1, 5}, {top - 1, top - 1}, {top - 1, 1 << 50}, {1<<32 + 1, 1 << 32},
		{1 << 40, 1 << 24}, {6, 3074457345618258603}, {1<<31 + 1, 1<<31 + 1},
	} {
		wantNoSum(t, list(q(0, x.n)), []int{x.often}, 1)
		wantNoSum(t, list(q(0, -x.n)), []int{x.often}, 1)
		wantNoSum(t, list(q(x.n, 0)), []int{x.often}, 1)
		wantNoSum(t, list(q(-x.n, 0)), []int{x.often}, 1)
	}
	wantSum(t, list(q(1-1<<31, 1<<31-1)), []int{1 << 31}, 1, q(1<<31-top, top-1<<31))
	wantSum(t, list(q(1<<31-1, 1+1<<31)), []int{1<<31 - 1}, 1, q(top-1<<32+1, top-1))
	wantSum(t, list(q(-3, 3)), []int{(top - 1) / 3}, 1, q(1-top, top-1))
	wantNoSum(t, list(q(0, 3)), []int{(top-1)/3 + 1}, 1)
}

// P14.1: sums grow in order: none on the way is too great.
func TestSumGrows(t *testing.T) {
	ones := []int{1, 1, 1}
	for _, sign := range []int{1, -1} {
		near, by, far := sign*(top-1), sign, sign*(top-2)
		wantSum(t, list(q(0, near), q(0, -by)), ones[:2], 1, q(0, far))
		wantNoSum(t, list(q(0, near), q(0, by)), ones[:2], 1)
		wantSum(t, list(q(0, near), q(0, -by), q(0, by)), ones, 1, q(0, near))
		wantNoSum(t, list(q(0, near), q(0, by), q(0, -by)), ones, 1)
		wantNoSum(t, list(q(0, by), q(0, near), q(0, -near)), ones, 1)
		wantNoSum(t, list(q(0, near), q(0, near)), ones[:2], 1)
		wantNoSum(t, list(q(0, far), q(0, by)), []int{1, 2}, 1)
		wantSum(t, list(q(0, far), q(0, by)), []int{1, 1}, 1, q(0, near))
		wantSum(t, list(q(near, 0), q(-by, 0)), ones[:2], 1, q(far, 0))
		wantNoSum(t, list(q(near, 0), q(by, 0)), ones[:2], 1)
		wantNoSum(t, list(q(near, 0), q(by, 0), q(-by, 0)), ones, 1)
		wantSum(t, list(q(by, 0), q(-by, 0), q(near, 0)), ones, 1, q(near, 0))
	}
	// One variable does not grow by another one, nor by Most.
	wantSum(t, list(q(top-1, top-1, 1-top), q(0, 0, 0)), ones[:2], 2, q(top-1, top-1, 1-top))
}

// P14.1: the same Coef, and Most at most.
func TestImplies(t *testing.T) {
	for _, coef := range [][]int{nil, {0}, {1}, {1, 2}, {-5, 0, 9}} {
		for _, a := range ends {
			for _, b := range ends {
				wantImplies(t, q(a, coef...), q(b, coef...), a <= b)
			}
		}
	}
	wantImplies(t, q(3), api.Ineq{Coef: []int{}, Most: 3}, true)
	wantImplies(t, api.Ineq{Coef: []int{}}, q(0), true)
	for _, other := range [][]int{nil, {1}, {2}, {2, 1}, {1, 3}, {-1, 2}, {1, 2, 0}, {0, 1, 2}, {2, 4}} {
		wantImplies(t, q(3, 1, 2), q(3, other...), false)
		wantImplies(t, q(3, other...), q(4, 1, 2), false)
	}
	// Too great or not, they are held against each other as they are.
	for _, n := range ends {
		wantImplies(t, q(0, n, 1), q(0, n, 1), true)
		wantImplies(t, q(0, n, 1), q(0, n, 2), false)
		wantImplies(t, q(0, n), q(0, n^1), false)
	}
}

// P14.1: a sum that says no less.
func TestProves(t *testing.T) {
	all := list(q(-3, 1, -1), q(5, 0, 2))
	wantProves(t, all, []int{2, 1}, q(-1, 2, 0), true)
	wantProves(t, all, []int{2, 1}, q(0, 2, 0), true)
	wantProves(t, all, []int{2, 1}, q(math.MaxInt, 2, 0), true)
	wantProves(t, all, []int{2, 1}, q(-2, 2, 0), false)
	wantProves(t, all, []int{2, 1}, q(math.MinInt, 2, 0), false)
	wantProves(t, all, []int{2, 1}, q(0, 1, 0), false)
	wantProves(t, all, []int{2, 1}, q(0, 2, 1), false)
	wantProves(t, all, []int{2, 1}, q(0, 2), false)
	wantProves(t, all, []int{2, 1}, q(0, 2, 0, 0), false)
	wantProves(t, all, []int{2, 1}, q(0), false)
	wantProves(t, all, []int{2}, q(0, 2, 0), false)
	wantProves(t, all, []int{2, 1, 0}, q(0, 2, 0), false)
	wantProves(t, nil, nil, q(0, 0, 0), true)
	wantProves(t, nil, nil, q(-1, 0, 0), false)
	wantProves(t, nil, nil, q(0), true)
	wantProves(t, nil, nil, q(0, make([]int, 64)...), true)
	wantProves(t, nil, nil, q(0, make([]int, 65)...), false)
	// Three edges of a ring: from one to the next one at least 1, round and back.
	ring := list(q(-1, 1, -1, 0), q(-1, 0, 1, -1), q(-1, -1, 0, 1))
	wantProves(t, ring, []int{1, 1, 1}, q(-1, 0, 0, 0), true)
	wantProves(t, ring, []int{1, 1, 0}, q(-2, 1, 0, -1), true)
	wantProves(t, ring, []int{1, 1, 0}, q(-3, 1, 0, -1), false)
}

// P14.1: where Sum has an error, nothing is proved, also where its zero value
// would say it.
func TestProvesOfErrors(t *testing.T) {
	wantProves(t, list(q(-3, 1), q(5, 2)), []int{-2, 1}, q(11, 0), false)
	wantProves(t, list(q(0)), []int{top}, q(0), false)
	wantProves(t, list(q(0)), []int{-1}, q(0), false)
	wantProves(t, list(q(0)), nil, q(0), false)
	wantProves(t, nil, []int{1}, q(9), false)
	wantProves(t, list(q(0, 0)), []int{1}, q(9), false)
	wantProves(t, list(q(-top)), []int{1}, q(0), false)
	wantProves(t, list(q(1-top), q(-1)), []int{1, 1}, q(0), false)
	wantProves(t, list(q(0, top)), []int{1}, q(0, top), false)
	wantProves(t, list(q(0, top-1)), []int{1}, q(0, top-1), true)
	wantProves(t, list(q(0, 1<<61)), []int{2}, q(0, top), false)
	wantProves(t, list(q(0, 1<<61)), []int{8}, q(0, 0), false)
}

// P14.1: a sum of some numbers, each so many times, that is at most Most.
func TestHolds(t *testing.T) {
	wantHolds(t, q(-3, 1, -1), []int{1, 4}, true)
	wantHolds(t, q(-3, 1, -1), []int{2, 4}, false)
	wantHolds(t, q(-3, 1, -1), []int{-9, -6}, true)
	wantHolds(t, q(29, 2, 3, 5), []int{1, 4, 3}, true)
	wantHolds(t, q(28, 2, 3, 5), []int{1, 4, 3}, false)
	wantHolds(t, q(0), nil, true)
	wantHolds(t, q(0), []int{}, true)
	wantHolds(t, q(-1), nil, false)
	wantHolds(t, q(0, 0, 0), []int{top - 1, 1 - top}, true)
	wantHolds(t, q(-1, 0, 0), []int{5, 7}, false)
	// As many variables as it has, more than Sum takes.
	for _, many := range []int{64, 65, 1000} {
		ones := slices.Repeat([]int{1}, many)
		wantHolds(t, q(many, ones...), ones, true)
		wantHolds(t, q(many-1, ones...), ones, false)
	}
}

// P14.1: as many numbers as variables.
func TestHoldsNumbersLack(t *testing.T) {
	for many := range 4 {
		for others := range 6 {
			if many != others {
				wantNeither(t, q(9, make([]int, many)...), make([]int, others))
			}
		}
	}
	wantNeither(t, q(9, 1), nil)
	wantNeither(t, q(9), []int{0})
}

// P14.1: too great by itself, as a product, or on the way; but any Most.
func TestHoldsTooGreat(t *testing.T) {
	for _, n := range []int{top, top + 1, -top, -top - 1, math.MaxInt, math.MinInt} {
		for _, by := range []int{0, 1, -1, 2, 4} {
			wantNeither(t, q(0, n), []int{by})
			wantNeither(t, q(0, by), []int{n})
			wantNeither(t, q(0, 1, by, 1), []int{1, n, 1})
		}
	}
	wantNeither(t, q(9, top-1, 1), []int{1, 1})
	wantNeither(t, q(9, 1-top, 1), []int{1, -1})
	wantNeither(t, q(9, top-1, 1, 1), []int{1, 1, -1})
	wantNeither(t, q(9, 1, 1, 1), []int{1, top - 1, 1 - top})
	wantHolds(t, q(9, 1, 1, 1), []int{top - 1, 1 - top, 1}, true)
	wantHolds(t, q(9, top-1, 1), []int{1, -1}, false)
	wantHolds(t, q(top-2, top-1, 1), []int{1, -1}, true)
	wantNeither(t, q(9, 1<<32), []int{1 << 32})
	wantNeither(t, q(9, 1<<32), []int{-1 << 32})
	wantNeither(t, q(9, 1<<61), []int{8})
	wantNeither(t, q(9, -1<<61), []int{-2})
	for _, most := range []int{top - 1, top, math.MaxInt} {
		wantHolds(t, q(most, 3), []int{top / 4}, true)
		wantHolds(t, q(most, 1), []int{top - 1}, true)
		wantHolds(t, q(-most, 1), []int{1 - top}, most == top-1)
	}
	wantHolds(t, q(math.MinInt, 1), []int{1 - top}, false)
	wantHolds(t, q(math.MinInt), nil, false)
	wantHolds(t, q(math.MaxInt), nil, true)
}

// words are the chapter's words: numbers as great as they come, and whether one
// was too great.
type words struct{ great bool }

// look tells of a number whether it is too great.
func (w *words) look(n *big.Int) *big.Int {
	if n.CmpAbs(big.NewInt(top)) >= 0 {
		w.great = true
	}
	return n
}

// sumOf is the sum of products, in order.
func (w *words) sumOf(a, b []int) *big.Int {
	sum := new(big.Int)
	for k := range a {
		x, y := w.look(big.NewInt(int64(a[k]))), w.look(big.NewInt(int64(b[k])))
		product := w.look(new(big.Int).Mul(x, y))
		sum = w.look(new(big.Int).Add(sum, product))
	}
	return sum
}

// wantSumWords holds Sum to the chapter's words.
func wantSumWords(t *testing.T, all []api.Ineq, times []int, vars int) {
	t.Helper()
	var w words
	var want api.Ineq
	for v := range vars {
		var column []int
		for _, x := range all {
			column = append(column, x.Coef[v])
		}
		want.Coef = append(want.Coef, int(w.sumOf(column, times).Int64()))
	}
	var mosts []int
	for _, x := range all {
		mosts = append(mosts, x.Most)
	}
	want.Most = int(w.sumOf(mosts, times).Int64())
	if w.great || slices.ContainsFunc(times, func(n int) bool { return n < 0 }) {
		wantNoSum(t, all, times, vars)
		wantProves(t, all, times, want, false)
		return
	}
	wantSum(t, all, times, vars, want)
	for by := -1; by <= 1; by++ {
		wantProves(t, all, times, q(want.Most+by, want.Coef...), by >= 0)
	}
}

// wantHoldsWords holds Holds to the chapter's words.
func wantHoldsWords(t *testing.T, x api.Ineq, at []int) {
	t.Helper()
	var w words
	sum := w.sumOf(x.Coef, at)
	if w.great {
		wantNeither(t, x, at)
		return
	}
	wantHolds(t, x, at, sum.Cmp(big.NewInt(int64(x.Most))) <= 0)
}

// P14.1: all numbers at their ends, against one another.
func TestAllEnds(t *testing.T) {
	for _, a := range ends {
		for _, b := range ends {
			wantSumWords(t, list(q(a, b)), []int{1}, 1)
			for _, c := range ends {
				wantHoldsWords(t, q(c, a), []int{b})
				wantSumWords(t, list(q(a, b)), []int{c}, 1)
				wantSumWords(t, list(q(a, 1), q(b, -1), q(c, 0)), []int{1, 1, 1}, 1)
				wantSumWords(t, list(q(1, a), q(0, b), q(-1, c)), []int{1, 1, 1}, 1)
				for _, d := range ends {
					wantHoldsWords(t, q(5, a, b), []int{c, d})
					wantSumWords(t, list(q(0, a), q(1, b)), []int{c, d}, 1)
				}
			}
		}
		if t.Failed() {
			return
		}
	}
}

// mixed are numbers below a limit, each made of the one ahead of it.
func mixed(seed uint64) func(int) int {
	return func(limit int) int {
		seed = seed*6364136223846793005 + 1442695040888963407
		return int(seed >> 33 % uint64(limit))
	}
}

// anyNumber is one of any length, small ones as often as great ones.
func anyNumber(next func(int) int) int {
	n := next(1<<31)<<32 | next(1<<31)<<1 | next(2)
	n >>= next(63)
	if next(2) == 0 {
		return -n
	}
	return n
}

// numbers are so many.
func numbers(many int, one func() int) []int {
	some := make([]int, many)
	for k := range some {
		some[k] = one()
	}
	return some
}

// P14.1: more of them, of any length, and in more rows and columns.
func TestMixed(t *testing.T) {
	next := mixed(14)
	for round := range 60000 {
		width := 2 + round%61
		one := func() int { return anyNumber(next) >> (62 - width) }
		vars, many := next(5), next(6)
		var all []api.Ineq
		for range many {
			all = append(all, q(one(), numbers(vars, one)...))
		}
		times := numbers(many, func() int { return max(one(), -one(), 0) })
		wantSumWords(t, all, times, vars)
		wantHoldsWords(t, q(one(), numbers(vars, one)...), numbers(vars, one))
		if t.Failed() {
			return
		}
	}
}

// P14.1: what holds of some numbers one by one, so many times each, holds of
// them together.
func TestWhatFollows(t *testing.T) {
	next := mixed(41)
	small := func() int { return next(9) - 4 }
	followed := 0
	for range 60000 {
		vars, many := next(4), next(4)
		at, holds := numbers(vars, small), true
		var all []api.Ineq
		for range many {
			x := q(small()+6, numbers(vars, small)...)
			ok, e := lin.Holds(x, at)
			holds = holds && ok && e == api.OK
			all = append(all, x)
		}
		times := numbers(many, func() int { return next(5) })
		sum, e := lin.Sum(all, times, vars)
		if ok, f := lin.Holds(sum, at); e != api.OK || f != api.OK || holds && !ok {
			t.Fatalf("of %v %v times holds %v at %v, but the sum %v does %v: %d %d", all, times, holds, at, sum, ok, e, f)
		}
		if holds {
			followed++
		}
	}
	if followed < 10000 {
		t.Errorf("they held %d times alone", followed)
	}
}

// R1, R8: far more inequalities than an applet has, and far more variables.
func TestLong(t *testing.T) {
	const many = 200000
	all := slices.Repeat(list(q(-1, 3)), many)
	times := slices.Repeat([]int{2}, many)
	wantSum(t, all, times, 1, q(-2*many, 6*many))
	wantProves(t, all, times, q(-2*many, 6*many), true)
	wantNoSum(t, all, times[1:], 1)
	// The last one is the first that is too great.
	all[many-1].Most = -top + 1 + 2*(many-1)
	times[many-1] = 1
	wantSum(t, all, times, 1, q(1-top, 6*many-3))
	all[many-1].Most--
	wantNoSum(t, all, times, 1)
	wantHolds(t, q(2*many, times...), slices.Repeat([]int{1}, many), true)
	wantHolds(t, q(2*many-2, times...), slices.Repeat([]int{1}, many), false)
	wantNoSum(t, list(q(1, times...)), []int{1}, many)
	wantProves(t, list(q(1, times...)), []int{1}, q(1, times...), false)
}

// roomy is a list with spare room, in which there is something.
func roomy[T any](all []T, spare T) []T {
	return append(slices.Clone(all), spare, spare, spare)[:len(all)]
}

// full is a list with its spare room.
func full[T any](all []T) []T { return all[:cap(all)] }

// handed is what is handed in, with spare room in which there is something that
// would count, if it were there.
func handed() (all []api.Ineq, times []int, want api.Ineq, at []int) {
	row := func(most int, coef ...int) api.Ineq { return api.Ineq{Coef: roomy(coef, top), Most: most} }
	all = roomy(list(row(-3, 1, -1), row(5, 0, 2)), row(top, top, 7))
	return all, roomy([]int{2, 1}, -7), row(-1, 2, 0), roomy([]int{-1, 9}, top)
}

// whole is what was handed in, with the spare room of its lists.
func whole(all []api.Ineq, times []int, want api.Ineq, at []int) string {
	var parts []any
	for _, x := range full(all) {
		parts = append(parts, x, full(x.Coef))
	}
	return fmt.Sprint(parts, full(times), want, full(want.Coef), full(at))
}

// wantHanded holds all calls to what they answer of what is handed in.
func wantHanded(t *testing.T, all []api.Ineq, times []int, want api.Ineq, at []int) {
	t.Helper()
	wantSum(t, all, times, 2, q(-1, 2, 0))
	wantProves(t, all, times, want, true)
	wantImplies(t, all[0], all[1], false)
	wantImplies(t, want, want, true)
	wantHolds(t, want, at, true)
	wantHolds(t, all[1], at, false)
	wantNoSum(t, all, times, 3)
	wantNeither(t, want, at[:1])
}

// R4: what is handed in stays as it is, spare room included, and what lies
// there does not count.
func TestKeepsArguments(t *testing.T) {
	all, times, want, at := handed()
	before := whole(all, times, want, at)
	wantHanded(t, all, times, want, at)
	if whole(all, times, want, at) != before {
		t.Errorf("it is changed: %v %v %v %v", all, times, want, at)
	}
}

// R4: an answer shares no memory with what was handed in, or with another
// answer, spare room included.
func TestAnswersApart(t *testing.T) {
	all, times, want, at := handed()
	before := whole(all, times, want, at)
	first, _ := lin.Sum(all, times, 2)
	other, _ := lin.Sum(all, times, 2)
	single, _ := lin.Sum(all[:1], []int{1}, 2)
	for k := range full(first.Coef) {
		full(first.Coef)[k] = 77
		full(single.Coef)[k] = 78
	}
	if !same(other, q(-1, 2, 0)) {
		t.Errorf("one answer changed with another one: %v", other)
	}
	if whole(all, times, want, at) != before {
		t.Errorf("it is changed with an answer: %v %v", all, times)
	}
	all[0].Coef[0], times[1] = 5, 9
	if !same(other, q(-1, 2, 0)) {
		t.Errorf("an answer changed with what was handed in: %v", other)
	}
}

// R5: the same, however often it is asked, and whatever was asked in between.
func TestAgain(t *testing.T) {
	all, times, want, at := handed()
	for range 200 {
		wantHanded(t, all, times, want, at)
		wantNoSum(t, list(q(0, top)), []int{0}, 1)
		wantNeither(t, q(0, top), []int{0})
		wantProves(t, list(q(0, 1)), []int{1}, q(-1, 1), false)
	}
}
