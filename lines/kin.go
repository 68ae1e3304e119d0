package lines

import (
	"math/bits"

	"teasel/api"
	"teasel/code"
	"teasel/flow"
)

// Kin is what a value is by the one from which it comes, as a line of that. Values that come from one and the same are told by each other, whichever of them was made first.
type Kin struct {
	line line
}

// Kins answers of each value of a function of plain code what it is by the one from which it comes; that is the value itself, where nothing else can be told.
func Kins(f api.Fun) []Kin {
	l := make([]Kin, f.Vals)
	for v := range l {
		l[v].line = line{value: v, a: 1}
	}
	order, _ := flow.Order(code.Graph(f))
	for _, b := range order {
		for _, x := range f.Blocks[b].Insts {
			if k, is := kinOf(x, l); is {
				l[x.Dst].line = k
			}
		}
	}
	return l
}

// kinOf answers the line of what an instruction makes, by those of what it is made from.
func kinOf(x api.Inst, l []Kin) (line, bool) {
	if x.Op == api.IConst {
		return line{b: x.Imm}, true
	}
	if !code.Pure(x.Op) {
		return line{}, false
	}
	var args [2]line
	for i, v := range x.Args {
		args[i] = l[v].line
	}
	return reckoned(x.Op, args[0], args[1])
}

// Of answers the value from which one comes; false: it comes from none, as it is a number.
func (k Kin) Of() (int, bool) {
	return k.line.value, k.line.a != 0
}

// Number answers which number a value is, if it is one.
func (k Kin) Number() (int64, bool) {
	return k.line.b, k.line.a == 0
}

// By tells a value by another one that comes from the same: as a times it, and b. That can't be done if the other one lost bits which this one has.
func (k Kin) By(other Kin) (a, b int64, is bool) {
	lost := bits.TrailingZeros64(uint64(other.line.a))
	if other.line.a == 0 || bits.TrailingZeros64(uint64(k.line.a)) < lost {
		return 0, 0, false
	}
	a = k.line.a >> lost * inverse(other.line.a>>lost)
	return a, k.line.b - a*other.line.b, true
}

// inverse answers by what an odd number must be multiplied for 1 to come out, modulo 2^64. Each turn has twice as many bits right as the one ahead; of the number itself three are.
func inverse(odd int64) int64 {
	x := odd
	for range 5 {
		x *= 2 - odd*x
	}
	return x
}
