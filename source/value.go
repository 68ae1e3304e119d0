package source

import "teasel/api"

// Value answers what an operation of two numbers, or of one, answers, and 0; or 0, and why it answers nothing.
func Value(op byte, a, b int64) (int64, byte) {
	switch op {
	case api.Add:
		return a + b, 0
	case api.Sub:
		return a - b, 0
	case api.Mul:
		return a * b, 0
	case api.Div, api.Rem:
		return divided(op, a, b)
	case api.And:
		return a & b, 0
	case api.Or:
		return a | b, 0
	case api.Xor:
		return a ^ b, 0
	case api.Shl:
		return a << distance(b), 0
	case api.Shr:
		return a >> distance(b), 0
	case api.Lt, api.Le, api.Gt, api.Ge, api.Eq, api.Ne:
		return truth(compared(op, a, b)), 0
	case api.Neg:
		return -a, 0
	case api.Not:
		return ^a, 0
	case api.Bang:
		return truth(a == 0), 0
	}
	return 0, api.Wrong
}

// divided needs no case of its own for the least number by -1: the language wraps that round, too.
func divided(op byte, a, b int64) (int64, byte) {
	if b == 0 {
		return 0, api.TrapZero
	}
	if op == api.Div {
		return a / b, 0
	}
	return a % b, 0
}

// distance is how far a shift goes: what is left modulo 64, of numbers below 0, too.
func distance(b int64) uint64 {
	return uint64(b) % 64
}

func compared(op byte, a, b int64) bool {
	switch op {
	case api.Lt:
		return a < b
	case api.Le:
		return a <= b
	case api.Gt:
		return a > b
	case api.Ge:
		return a >= b
	case api.Eq:
		return a == b
	}
	return a != b
}

func truth(is bool) int64 {
	if is {
		return 1
	}
	return 0
}
