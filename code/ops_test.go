package code_test

import (
	"testing"

	"teasel/api"
	"teasel/code"
)

// row is what the chapter tells of an Op: how many Args, whether it makes a value, whether it is pure, whether it may trap.
type row struct {
	args  int
	makes bool
	pure  bool
	traps bool
}

// ops are the rows of all that there are.
func ops() map[byte]row {
	l := map[byte]row{
		api.Div: {2, true, false, true}, api.Rem: {2, true, false, true},
		api.Neg: {1, true, true, false}, api.Not: {1, true, true, false}, api.Bang: {1, true, true, false},
		api.IConst: {0, true, true, false},
		api.ICopy:  {1, true, true, false},
		api.IParam: {0, true, false, false},
		api.ILoad:  {2, true, false, true},
		api.IStore: {3, false, false, true},
		api.ILen:   {1, true, false, false},
		api.IAlloc: {0, true, false, false},
		api.ITop:   {0, true, false, false},
		api.IFree:  {1, false, false, false},
		api.ICall:  {-1, true, false, false},
		api.IPrint: {1, false, false, false},
		api.IRead:  {0, true, false, true},
		api.IMark:  {0, false, false, false},
		api.IGet:   {0, true, false, false},
		api.ISet:   {1, false, false, false},
		api.IPhi:   {-1, true, false, false},
	}
	for _, op := range []byte{api.Add, api.Sub, api.Mul, api.And, api.Or, api.Xor, api.Shl, api.Shr, api.Lt, api.Le, api.Gt, api.Ge, api.Eq, api.Ne} {
		l[op] = row{2, true, true, false}
	}
	return l
}

func TestOps(t *testing.T) {
	rows := ops()
	if len(rows) != 16+3+16 {
		t.Fatal(len(rows))
	}
	for op := range 256 {
		x, is := rows[byte(op)]
		args, makes, there := code.Shape(byte(op))
		if args != x.args || makes != x.makes || there != is {
			t.Errorf("Shape(%d) = %d, %v, %v", op, args, makes, there)
		}
		if code.Pure(byte(op)) != x.pure {
			t.Errorf("Pure(%d) isn't %v", op, x.pure)
		}
		if code.Traps(byte(op)) != x.traps {
			t.Errorf("Traps(%d) isn't %v", op, x.traps)
		}
	}
}
