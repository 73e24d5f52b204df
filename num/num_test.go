package num_test

import (
	"math"
	"strconv"
	"testing"

	"plimsoll/api"
	"plimsoll/num"
)

const (
	least = math.MinInt32
	most  = math.MaxInt32
)

// row is one call, and what it has to answer.
type row struct {
	op   int
	a, b int32
	want int32
	ok   bool
}

func (x row) check(t *testing.T) {
	t.Helper()
	if got, ok := num.Do(x.op, x.a, x.b); got != x.want || ok != x.ok {
		t.Errorf("Do(%d, %d, %d) = %d, %v, want %d, %v", x.op, x.a, x.b, got, ok, x.want, x.ok)
	}
}

func checkAll(t *testing.T, list []row) {
	t.Helper()
	for _, x := range list {
		x.check(t)
	}
}

// takesTwo are the instructions of which P1.1 speaks, by their numbers in the
// document, so that Is is not held against itself.
func takesTwo(op int) bool { return op >= 7 && op <= 17 }

// P1.1: each instruction at ordinary numbers.
func TestDoOrdinary(t *testing.T) {
	checkAll(t, []row{
		{api.OpAdd, 20, 22, 42, true},
		{api.OpAdd, -20, 5, -15, true},
		{api.OpSub, 20, 22, -2, true},
		{api.OpSub, -3, -10, 7, true},
		{api.OpMul, 6, 7, 42, true},
		{api.OpMul, -6, 7, -42, true},
		{api.OpMul, -6, -7, 42, true},
		{api.OpDiv, 42, 5, 8, true},
		{api.OpDiv, 4, 5, 0, true},
		{api.OpDiv, 0, 5, 0, true},
		{api.OpRem, 42, 5, 2, true},
		{api.OpRem, 4, 5, 4, true},
		{api.OpRem, 40, 5, 0, true},
		{api.OpAnd, 12, 10, 8, true},
		{api.OpXor, 12, 10, 6, true},
		{api.OpShl, 5, 3, 40, true},
		{api.OpShr, 40, 3, 5, true},
		{api.OpShr, 41, 1, 20, true},
		{api.OpLess, 3, 4, 1, true},
		{api.OpLess, 4, 3, 0, true},
		{api.OpEqual, 4, 4, 1, true},
		{api.OpEqual, 4, 3, 0, true},
	})
}

// P1.1: sums, differences and products are modulo 2^32, with a sign.
func TestDoWraps(t *testing.T) {
	checkAll(t, []row{
		{api.OpAdd, most, 1, least, true},
		{api.OpAdd, most, most, -2, true},
		{api.OpAdd, least, -1, most, true},
		{api.OpAdd, least, least, 0, true},
		{api.OpSub, least, 1, most, true},
		{api.OpSub, most, -1, least, true},
		{api.OpSub, 0, least, least, true},
		{api.OpSub, -1, most, least, true},
		{api.OpMul, 65536, 65536, 0, true},
		{api.OpMul, 65536, 32768, least, true},
		{api.OpMul, least, -1, least, true},
		{api.OpMul, most, most, 1, true},
		{api.OpMul, most, 2, -2, true},
	})
}

// P1.1: division goes towards 0, and the rest has a's sign.
func TestDoDivides(t *testing.T) {
	checkAll(t, []row{
		{api.OpDiv, 7, 2, 3, true},
		{api.OpDiv, -7, 2, -3, true},
		{api.OpDiv, 7, -2, -3, true},
		{api.OpDiv, -7, -2, 3, true},
		{api.OpDiv, -1, 2, 0, true},
		{api.OpRem, 7, 2, 1, true},
		{api.OpRem, -7, 2, -1, true},
		{api.OpRem, 7, -2, 1, true},
		{api.OpRem, -7, -2, -1, true},
		{api.OpDiv, least, -1, least, true},
		{api.OpRem, least, -1, 0, true},
		{api.OpDiv, least, 1, least, true},
		{api.OpRem, least, 1, 0, true},
		{api.OpDiv, least, most, -1, true},
		{api.OpRem, least, most, -1, true},
		{api.OpDiv, most, least, 0, true},
		{api.OpRem, most, least, most, true},
		{api.OpDiv, least, least, 1, true},
		{api.OpRem, least, least, 0, true},
		{api.OpDiv, most, -1, -most, true},
	})
}

// P1.1, and R3: by 0 there is no answer, and 0 beside false.
func TestDoByZero(t *testing.T) {
	for _, a := range []int32{least, -1, 0, 1, 5, most} {
		row{api.OpDiv, a, 0, 0, false}.check(t)
		row{api.OpRem, a, 0, 0, false}.check(t)
	}
}

// P1.1: bit by bit, the sign's among them.
func TestDoBits(t *testing.T) {
	checkAll(t, []row{
		{api.OpAnd, -1, 12, 12, true},
		{api.OpAnd, -1, -1, -1, true},
		{api.OpAnd, least, most, 0, true},
		{api.OpAnd, least, -1, least, true},
		{api.OpAnd, 0, -1, 0, true},
		{api.OpXor, -1, 0, -1, true},
		{api.OpXor, -1, -1, 0, true},
		{api.OpXor, least, most, -1, true},
		{api.OpXor, -1, most, least, true},
	})
}

// P1.1: only b's lowest five bits count, and OpShr fills up with the sign.
func TestDoShifts(t *testing.T) {
	checkAll(t, []row{
		{api.OpShl, 3, 0, 3, true},
		{api.OpShl, 1, 31, least, true},
		{api.OpShl, 3, 31, least, true},
		{api.OpShl, 2, 31, 0, true},
		{api.OpShl, most, 1, -2, true},
		{api.OpShl, 3, 32, 3, true},
		{api.OpShl, 3, 33, 6, true},
		{api.OpShl, 3, 64, 3, true},
		{api.OpShl, 3, most, least, true},
		{api.OpShl, 3, -1, least, true},
		{api.OpShl, 3, -31, 6, true},
		{api.OpShl, 3, -32, 3, true},
		{api.OpShl, 3, least, 3, true},
		{api.OpShl, -1, 4, -16, true},
		{api.OpShr, 3, 0, 3, true},
		{api.OpShr, most, 30, 1, true},
		{api.OpShr, most, 31, 0, true},
		{api.OpShr, 6, 32, 6, true},
		{api.OpShr, 6, 33, 3, true},
		{api.OpShr, 6, -31, 3, true},
		{api.OpShr, 6, -32, 6, true},
		{api.OpShr, 6, least, 6, true},
		{api.OpShr, most, -1, 0, true},
		{api.OpShr, -8, 1, -4, true},
		{api.OpShr, -7, 1, -4, true},
		{api.OpShr, -1, 31, -1, true},
		{api.OpShr, -1, -1, -1, true},
		{api.OpShr, least, 31, -1, true},
		{api.OpShr, least, 1, -1 << 30, true},
		{api.OpShr, -8, 32, -8, true},
		{api.OpShr, -8, 33, -4, true},
	})
}

// P1.1: numbers are held against each other with their signs; 1 or 0.
func TestDoCompares(t *testing.T) {
	checkAll(t, []row{
		{api.OpLess, -1, 0, 1, true},
		{api.OpLess, 0, -1, 0, true},
		{api.OpLess, 0, 0, 0, true},
		{api.OpLess, least, most, 1, true},
		{api.OpLess, most, least, 0, true},
		{api.OpLess, least, 1, 1, true},
		{api.OpEqual, least, least, 1, true},
		{api.OpEqual, least, most, 0, true},
		{api.OpEqual, -1, 1, 0, true},
		{api.OpEqual, 0, 0, 1, true},
	})
}

// P1.1, and R3: of other instructions false, and 0 beside it.
func TestDoOthers(t *testing.T) {
	ops := []int{math.MinInt, least, -7, 39, 256 + api.OpAdd, 1<<32 + api.OpAdd, math.MaxInt}
	for op := -2; op < 50; op++ {
		ops = append(ops, op)
	}
	for _, op := range ops {
		if takesTwo(op) {
			continue
		}
		for _, a := range []int32{least, -1, 0, 1, 5, most} {
			row{op, a, a, 0, false}.check(t)
			row{op, a, 3, 0, false}.check(t)
		}
	}
}

// P1.1: Is holds of just those from OpAdd to OpEqual.
func TestIs(t *testing.T) {
	for op := -300; op <= 300; op++ {
		if num.Is(op) != takesTwo(op) {
			t.Errorf("Is(%d) = %v", op, !takesTwo(op))
		}
	}
	for _, op := range []int{math.MinInt, least, 1<<32 + api.OpAdd, 1<<32 + api.OpEqual, math.MaxInt} {
		if num.Is(op) {
			t.Errorf("Is(%d) = true", op)
		}
	}
}

// signed is a whole number modulo 2^32, as one with a sign.
func signed(n int64) int32 {
	const all = int64(1) << 32
	n = (n%all + all) % all
	if n > most {
		n -= all
	}
	return int32(n)
}

// bitwise puts two numbers together bit by bit; yes tells by how many of the
// two bits are set whether the answer's is.
func bitwise(a, b int32, yes func(set int) bool) int32 {
	x, y := uint32(a), uint32(b)
	sum := int64(0)
	for i := range 32 {
		if yes(int(x>>i&1) + int(y>>i&1)) {
			sum += int64(1) << i
		}
	}
	return signed(sum)
}

// quotient goes towards 0 by the numbers' sizes alone.
func quotient(a, b int64) int64 {
	q := max(a, -a) / max(b, -b)
	if (a < 0) != (b < 0) {
		return -q
	}
	return q
}

// down is a by 2^k, rounded down, which is what filling up with the sign means.
func down(a int64, k int) int64 {
	d := int64(1) << k
	return (a - ((a%d)+d)%d) / d
}

// expect works the answer out by wide numbers.
func expect(op int, a, b int32) (int32, bool) {
	x, y := int64(a), int64(b)
	k := int((y%32 + 32) % 32)
	switch op {
	case 7:
		return signed(x + y), true
	case 8:
		return signed(x - y), true
	case 9:
		return signed(x * y), true
	case 10, 11:
		if y == 0 {
			return 0, false
		}
		if op == 10 {
			return signed(quotient(x, y)), true
		}
		return signed(x - quotient(x, y)*y), true
	case 12:
		return bitwise(a, b, func(set int) bool { return set == 2 }), true
	case 13:
		return bitwise(a, b, func(set int) bool { return set == 1 }), true
	case 14:
		return signed(x << k), true
	case 15:
		return signed(down(x, k)), true
	case 16:
		if y-x > 0 {
			return 1, true
		}
	case 17:
		if y-x == 0 {
			return 1, true
		}
	}
	return 0, takesTwo(op)
}

// numbers are the ends, powers of 2 with their neighbours, and some between.
func numbers() []int32 {
	list := []int32{0, 10, -10, 1000003, -1000003, 123456789, -123456789, 0x55555555, -0x55555556}
	for i := range 32 {
		p := int64(1) << i
		for d := int64(-1); d <= 1; d++ {
			list = append(list, signed(p+d), signed(-p+d))
		}
	}
	return list
}

// P1.1: all pairs of such numbers, against wide ones.
func TestDoAgainstWide(t *testing.T) {
	list := numbers()
	for op := 0; op <= 35; op++ {
		t.Run(strconv.Itoa(op), func(t *testing.T) {
			for _, a := range list {
				for _, b := range list {
					want, ok := expect(op, a, b)
					row{op, a, b, want, ok}.check(t)
				}
			}
		})
	}
}
