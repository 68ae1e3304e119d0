package source_test

import (
	"math"
	"math/big"
	"math/rand/v2"
	"testing"

	"teasel/api"
	"teasel/source"
)

const (
	least    = math.MinInt64
	greatest = math.MaxInt64
)

func wantValue(t *testing.T, op byte, a, b, want int64, trap byte) {
	t.Helper()
	if n, end := source.Value(op, a, b); n != want || end != trap {
		t.Errorf("Value(%d, %d, %d) = %d %d, want %d %d", op, a, b, n, end, want, trap)
	}
}

func TestValuesOfTwo(t *testing.T) {
	for _, c := range []struct {
		op         byte
		a, b, want int64
	}{
		{api.Add, 2, 3, 5}, {api.Add, greatest, 1, least}, {api.Add, least, -1, greatest}, {api.Add, least, least, 0},
		{api.Sub, 2, 3, -1}, {api.Sub, least, 1, greatest}, {api.Sub, 0, least, least},
		{api.Mul, -2, 3, -6}, {api.Mul, greatest, 2, -2}, {api.Mul, least, -1, least}, {api.Mul, 1 << 32, 1 << 32, 0}, {api.Mul, 3037000500, 3037000500, -9223372036709301616},
		{api.Div, 7, 2, 3}, {api.Div, -7, 2, -3}, {api.Div, 7, -2, -3}, {api.Div, -7, -2, 3}, {api.Div, least, -1, least}, {api.Div, least, 1, least}, {api.Div, 0, 5, 0}, {api.Div, 1, least, 0},
		{api.Rem, 7, 2, 1}, {api.Rem, -7, 2, -1}, {api.Rem, 7, -2, 1}, {api.Rem, -7, -2, -1}, {api.Rem, least, -1, 0}, {api.Rem, 5, -1, 0}, {api.Rem, least, 10, -8},
		{api.And, 12, 10, 8}, {api.And, -1, 7, 7}, {api.Or, 12, 10, 14}, {api.Or, least, 1, least + 1}, {api.Xor, 12, 10, 6}, {api.Xor, -1, 7, -8},
		{api.Shl, 1, 3, 8}, {api.Shl, 1, 63, least}, {api.Shl, 1, 64, 1}, {api.Shl, 1, 65, 2}, {api.Shl, 1, -1, least}, {api.Shl, 3, -64, 3}, {api.Shl, 3, -63, 6}, {api.Shl, 1, least, 1}, {api.Shl, 1, greatest, least}, {api.Shl, greatest, 1, -2},
		{api.Shr, 8, 3, 1}, {api.Shr, -8, 1, -4}, {api.Shr, -1, 63, -1}, {api.Shr, least, 63, -1}, {api.Shr, greatest, 62, 1}, {api.Shr, 8, 64, 8}, {api.Shr, -8, 65, -4}, {api.Shr, 8, -1, 0}, {api.Shr, -8, -1, -1}, {api.Shr, -7, 1, -4}, {api.Shr, 8, -61, 1},
		{api.Lt, 1, 2, 1}, {api.Lt, 2, 2, 0}, {api.Lt, 3, 2, 0}, {api.Lt, least, greatest, 1},
		{api.Le, 1, 2, 1}, {api.Le, 2, 2, 1}, {api.Le, 3, 2, 0},
		{api.Gt, 1, 2, 0}, {api.Gt, 2, 2, 0}, {api.Gt, 3, 2, 1}, {api.Gt, greatest, least, 1},
		{api.Ge, 1, 2, 0}, {api.Ge, 2, 2, 1}, {api.Ge, 3, 2, 1},
		{api.Eq, 1, 2, 0}, {api.Eq, 2, 2, 1}, {api.Ne, 1, 2, 1}, {api.Ne, 2, 2, 0},
	} {
		wantValue(t, c.op, c.a, c.b, c.want, 0)
	}
}

func TestDivisionsByNought(t *testing.T) {
	for _, a := range []int64{0, 1, -1, least, greatest} {
		wantValue(t, api.Div, a, 0, 0, api.TrapZero)
		wantValue(t, api.Rem, a, 0, 0, api.TrapZero)
	}
}

func TestValuesOfOne(t *testing.T) {
	for _, b := range []int64{0, 1, -5, least} {
		for _, c := range []struct {
			op      byte
			a, want int64
		}{
			{api.Neg, 5, -5}, {api.Neg, 0, 0}, {api.Neg, least, least}, {api.Neg, greatest, -greatest},
			{api.Not, 0, -1}, {api.Not, 5, -6}, {api.Not, least, greatest},
			{api.Bang, 0, 1}, {api.Bang, 1, 0}, {api.Bang, 2, 0}, {api.Bang, -1, 0}, {api.Bang, least, 0},
		} {
			wantValue(t, c.op, c.a, b, c.want, 0)
		}
	}
}

func TestOtherOperations(t *testing.T) {
	ops := map[byte]bool{api.Neg: true, api.Not: true, api.Bang: true}
	for op := byte(api.Add); op <= api.Ne; op++ {
		ops[op] = true
	}
	for op := range 256 {
		if !ops[byte(op)] {
			wantValue(t, byte(op), 7, 3, 0, api.Wrong)
			wantValue(t, byte(op), 7, 0, 0, api.Wrong)
		}
	}
}

// wrapped is a number modulo 2^64, with a sign.
func wrapped(n *big.Int) int64 {
	m := new(big.Int).And(n, new(big.Int).SetUint64(math.MaxUint64))
	return int64(m.Uint64())
}

func sign(is bool) *big.Int {
	if is {
		return big.NewInt(1)
	}
	return big.NewInt(0)
}

// bigValue is what an operation answers, of numbers without bounds. (Of a shift, b modulo 64 is never below 0.)
func bigValue(op byte, a, b *big.Int) *big.Int {
	n := new(big.Int)
	far := uint(new(big.Int).Mod(b, big.NewInt(64)).Uint64())
	switch op {
	case api.Add:
		return n.Add(a, b)
	case api.Sub:
		return n.Sub(a, b)
	case api.Mul:
		return n.Mul(a, b)
	case api.Div:
		return n.Quo(a, b)
	case api.Rem:
		return n.Rem(a, b)
	case api.And:
		return n.And(a, b)
	case api.Or:
		return n.Or(a, b)
	case api.Xor:
		return n.Xor(a, b)
	case api.Shl:
		return n.Lsh(a, far)
	case api.Shr:
		return n.Rsh(a, far)
	}
	c := a.Cmp(b)
	return map[byte]*big.Int{
		api.Lt: sign(c < 0), api.Le: sign(c <= 0), api.Gt: sign(c > 0), api.Ge: sign(c >= 0), api.Eq: sign(c == 0), api.Ne: sign(c != 0),
		api.Neg: n.Neg(a), api.Not: new(big.Int).Not(a), api.Bang: sign(a.Sign() == 0),
	}[op]
}

func TestValuesAgainstNumbersWithoutBounds(t *testing.T) {
	r := rand.New(rand.NewPCG(7, 8))
	some := func() int64 {
		n := int64(r.Uint64())
		switch r.IntN(5) {
		case 0:
			return n >> 32
		case 1:
			return n >> 58
		case 2:
			return []int64{least, least + 1, -64, -1, 0, 1, 2, 63, 64, 65, greatest - 1, greatest}[r.IntN(12)]
		}
		return n
	}
	ops := []byte{api.Neg, api.Not, api.Bang}
	for op := byte(api.Add); op <= api.Ne; op++ {
		ops = append(ops, op)
	}
	for range 5000 {
		a, b := some(), some()
		for _, op := range ops {
			if b == 0 && (op == api.Div || op == api.Rem) {
				continue
			}
			wantValue(t, op, a, b, wrapped(bigValue(op, big.NewInt(a), big.NewInt(b))), 0)
		}
	}
}
