package fold

import (
	"teasel/api"
	"teasel/code"
	"teasel/source"
)

// The kinds of facts.
const (
	unknown = 0 // no way was followed yet on which it is made
	always  = 1 // it is n
	varying = 2 // it may be any number
)

// fact is what is known of a value.
type fact struct {
	kind byte
	n    int64
}

// and answers what is known of a value that has two facts.
func (a fact) and(b fact) fact {
	switch {
	case a.kind == unknown:
		return b
	case b.kind == unknown || a == b:
		return a
	}
	return fact{kind: varying}
}

// facts are those of a function's values.
type facts []fact

// reckon answers what is known of what an instruction makes.
func (l facts) reckon(x api.Inst) fact {
	if x.Op == api.IConst {
		return fact{always, x.Imm}
	}
	if !code.Pure(x.Op) && x.Op != api.Div && x.Op != api.Rem {
		return fact{kind: varying}
	}
	var n [2]int64
	for i, v := range x.Args {
		if l[v].kind != always {
			return l[v]
		}
		n[i] = l[v].n
	}
	if x.Op == api.ICopy {
		return fact{always, n[0]}
	}
	// What divides by 0 traps, and must do so still.
	m, trap := source.Value(x.Op, n[0], n[1])
	if trap != 0 {
		return fact{kind: varying}
	}
	return fact{always, m}
}
