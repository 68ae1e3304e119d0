package inst_test

import (
	"bytes"
	"math/big"
	"strings"
	"testing"

	"teasel/api"
	"teasel/inst"
)

// row is a row of the chapter's table: an Op, the registers that it names, and what its Imm may be; -1 to -1: it names none.
type row struct {
	op    byte
	regs  string
	least *big.Int
	most  *big.Int
}

func number(n int64) *big.Int { return big.NewInt(n) }

// power answers 2^n.
func power(n int) *big.Int { return new(big.Int).Lsh(number(1), uint(n)) }

// table is the chapter's table, row by row; rows are the same by their Ops.
var (
	table = allRows()
	rows  = map[byte]row{}
)

func init() {
	for _, r := range table {
		rows[r.op] = r
	}
}

func allRows() []row {
	greatest := new(big.Int).Sub(power(63), number(1))
	none := number(-1)
	l := []row{
		{api.Neg, "AB", none, none}, {api.Not, "AB", none, none}, {api.Bang, "AB", none, none}, {api.MMove, "AB", none, none}, {api.MLen, "AB", none, none},
		{api.MNum, "A", new(big.Int).Neg(power(63)), greatest},
		{api.MIn, "A", number(0), number(59999)}, {api.MOut, "A", number(0), number(59999)},
		{api.MLoad, "ABC", none, none}, {api.MStore, "ABC", none, none},
		{api.MAlloc, "A", number(1), number(256)},
		{api.MTop, "A", none, none}, {api.MFree, "A", none, none}, {api.MArg, "A", none, none}, {api.MPrint, "A", none, none}, {api.MRead, "A", none, none}, {api.MRet, "A", none, none},
		{api.MCall, "A", number(0), greatest}, {api.MMark, "", number(0), greatest},
		{api.MJump, "", number(0), greatest}, {api.MZero, "A", number(0), greatest},
		{api.MGive, "A", number(0), number(5)},
	}
	for op := byte(api.Add); op <= api.Ne; op++ {
		l = append(l, row{op, "ABC", none, none})
	}
	return l
}

// rowOf answers an Op's row, or one without an Op.
func rowOf(op byte) row { return rows[op] }

func (r row) names(register string) bool { return strings.Contains(r.regs, register) }

func (r row) hasImm() bool { return r.op != 0 && r.least.Cmp(r.most) < 0 }

// isRight is the chapter's words about one instruction, word by word.
func isRight(w api.Word) bool {
	r := rowOf(w.Op)
	if r.op == 0 {
		return false
	}
	for i, n := range []byte{w.A, w.B, w.C} {
		if named := r.names("ABC"[i : i+1]); named && n > 15 || !named && n != 0 {
			return false
		}
	}
	if !r.hasImm() {
		return w.Imm == 0
	}
	return r.least.Cmp(number(w.Imm)) <= 0 && r.most.Cmp(number(w.Imm)) >= 0
}

// bytesOf answers the bytes of an instruction that is right, by numbers without bounds: the least count of bytes that can hold Imm is looked for.
func bytesOf(w api.Word) []byte {
	r := rowOf(w.Op)
	p := []byte{w.Op}
	for _, x := range []struct {
		name string
		n    byte
	}{{"A", w.A}, {"B", w.B}, {"C", w.C}} {
		if r.names(x.name) {
			p = append(p, x.n)
		}
	}
	if !r.hasImm() {
		return p
	}
	n := number(w.Imm)
	size := 0
	for !holds(size, n, w.Op == api.MNum) {
		size++
	}
	p = append(p, byte(size))
	left := new(big.Int).Mod(n, power(8*size))
	for range size {
		low := new(big.Int)
		left.DivMod(left, number(256), low)
		p = append(p, byte(low.Int64()))
	}
	return p
}

// holds tells whether a count of bytes can hold a number, with a sign or without.
func holds(size int, n *big.Int, signed bool) bool {
	if size == 0 {
		return n.Sign() == 0
	}
	if !signed {
		return n.Cmp(power(8*size)) < 0
	}
	half := power(8*size - 1)
	return n.Cmp(new(big.Int).Neg(half)) >= 0 && n.Cmp(half) < 0
}

// begins answers the right instruction with whose bytes p begins: what would stand there is held against its own bytes.
func begins(p []byte) (api.Word, int, bool) {
	if len(p) == 0 {
		return api.Word{}, 0, false
	}
	r := rowOf(p[0])
	w := api.Word{Op: p[0]}
	for i, name := range []string{"A", "B", "C"} {
		if r.op == 0 || r.names(name) && i+1 >= len(p) {
			return api.Word{}, 0, false
		}
		if r.names(name) {
			*[]*byte{&w.A, &w.B, &w.C}[i] = p[i+1]
		}
	}
	if at := 1 + len(r.regs); r.hasImm() {
		if at >= len(p) || int(p[at]) > 8 || at+1+int(p[at]) > len(p) {
			return api.Word{}, 0, false
		}
		n := new(big.Int)
		size := int(p[at])
		for i := range size {
			n.Add(n, new(big.Int).Mul(number(int64(p[at+1+i])), power(8*i)))
		}
		if r.op == api.MNum && size > 0 && p[at+size] >= 0x80 {
			n.Sub(n, power(8*size))
		}
		if !n.IsInt64() {
			return api.Word{}, 0, false
		}
		w.Imm = n.Int64()
	}
	if !isRight(w) || !bytes.HasPrefix(p, bytesOf(w)) {
		return api.Word{}, 0, false
	}
	return w, len(bytesOf(w)), true
}

// hold holds Form and Encode of an instruction, and Decode of its bytes, by the chapter's words.
func hold(t *testing.T, w api.Word) {
	t.Helper()
	right := isRight(w)
	if inst.Form(w) != right {
		t.Fatalf("Form(%v) isn't %v", w, right)
	}
	p, e := inst.Encode(w)
	if !right {
		if p != nil || e != api.ErrForm {
			t.Fatalf("Encode(%v) answers % x, %d", w, p, e)
		}
		return
	}
	if want := bytesOf(w); e != api.OK || !bytes.Equal(p, want) {
		t.Fatalf("Encode(%v) answers % x, %d, want % x", w, p, e, want)
	}
	for _, behind := range []string{"", "\x00", "\x01", "\xff\xff\xff\xff\xff\xff\xff\xff\xff"} {
		got, n, e := inst.Decode(append(bytes.Clone(p), behind...))
		if e != api.OK || got != w || n != len(p) {
			t.Fatalf("Decode(% x) with % x behind answers %v, %d, %d, want %v", p, behind, got, n, e, w)
		}
	}
	for i := range p {
		wantNone(t, p[:i])
	}
}

// holdBytes holds Decode of any bytes.
func holdBytes(t *testing.T, p []byte) {
	t.Helper()
	want, size, is := begins(p)
	if !is {
		wantNone(t, p)
		return
	}
	if w, n, e := inst.Decode(p); e != api.OK || w != want || n != size {
		t.Fatalf("Decode(% x) answers %v, %d, %d, want %v, %d", p, w, n, e, want, size)
	}
}

// wantNone holds that bytes don't begin with an instruction's.
func wantNone(t *testing.T, p []byte) {
	t.Helper()
	if w, n, e := inst.Decode(p); e != api.ErrForm || w != (api.Word{}) || n != 0 {
		t.Fatalf("Decode(% x) answers %v, %d, %d", p, w, n, e)
	}
}

// wantBytes holds the bytes of an instruction that is right.
func wantBytes(t *testing.T, w api.Word, want ...byte) {
	t.Helper()
	hold(t, w)
	if p, e := inst.Encode(w); e != api.OK || !bytes.Equal(p, want) {
		t.Errorf("Encode(%v) answers % x, %d, want % x", w, p, e, want)
	}
}
