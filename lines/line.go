package lines

import "teasel/api"

// line is a times a value, and b, modulo 2^64; just b, if a is 0.
type line struct {
	value int
	a, b  int64
}

func (l line) times(n int64) line {
	return line{value: l.value, a: l.a * n, b: l.b * n}
}

// plus answers the sum of two lines, unless they need two values.
func (l line) plus(k line) (line, bool) {
	sum := line{value: l.value, a: l.a + k.a, b: l.b + k.b}
	switch {
	case l.a == 0:
		sum.value = k.value
	case k.a != 0 && k.value != l.value:
		return line{}, false
	}
	return sum, true
}

// by answers the product of two lines, if one of them is a number.
func (l line) by(k line) (line, bool) {
	switch {
	case k.a == 0:
		return l.times(k.b), true
	case l.a == 0:
		return k.times(l.b), true
	}
	return line{}, false
}

// reckoned answers the line of what an operation answers to two lines, or to the first one, if it has one.
func reckoned(op byte, l, k line) (line, bool) {
	switch op {
	case api.ICopy:
		return l, true
	case api.Neg:
		return l.times(-1), true
	case api.Not:
		return l.times(-1).plus(line{b: -1})
	case api.Add:
		return l.plus(k)
	case api.Sub:
		return l.plus(k.times(-1))
	case api.Mul:
		return l.by(k)
	case api.Shl:
		if k.a == 0 {
			// A shift goes as far as is left modulo 64.
			return l.times(1 << (uint64(k.b) % 64)), true
		}
	}
	return line{}, false
}
