// Package num is numbers of 32 bits.
package num

import "plimsoll/api"

// Do: what two numbers come to by an instruction; false: there is no answer.
func Do(op int, a, b int32) (int32, bool) {
	switch op {
	case api.OpAdd:
		return a + b, true
	case api.OpSub:
		return a - b, true
	case api.OpMul:
		return a * b, true
	case api.OpDiv, api.OpRem:
		return divide(op, a, b)
	case api.OpAnd:
		return a & b, true
	case api.OpXor:
		return a ^ b, true
	case api.OpShl:
		return a << places(b), true
	case api.OpShr:
		return a >> places(b), true
	case api.OpLess:
		return truth(a < b), true
	case api.OpEqual:
		return truth(a == b), true
	}
	return 0, false
}

// Is: does an instruction take two numbers, and give one?
func Is(op int) bool {
	switch op {
	case api.OpAdd, api.OpSub, api.OpMul, api.OpDiv, api.OpRem, api.OpAnd,
		api.OpXor, api.OpShl, api.OpShr, api.OpLess, api.OpEqual:
		return true
	}
	return false
}

// divide is what OpDiv or OpRem comes to. The least number by -1 needs no
// case of its own: the language's division wraps round there, with rest 0.
func divide(op int, a, b int32) (int32, bool) {
	if b == 0 {
		return 0, false
	}
	if op == api.OpDiv {
		return a / b, true
	}
	return a % b, true
}

// places is how far a shift goes. Without the mask a number below 0 would
// panic, and one above 31 would push all bits out.
func places(b int32) uint {
	return uint(b & 31)
}

// truth is a yes or no as a number, since applets have no other values for it.
func truth(yes bool) int32 {
	if yes {
		return 1
	}
	return 0
}
