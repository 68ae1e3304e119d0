package lines_test

import (
	"math"
	"math/rand/v2"
	"slices"
	"testing"

	"teasel/api"
	"teasel/code"
	"teasel/lines"
	. "teasel/parts"
	"teasel/source"
)

// row is makers of all kinds: the values 0 and 1 are read, 2 and 3 are numbers, each other one is made from one ahead.
func row() []api.Inst {
	return []api.Inst{
		Read(0), Read(1), Number(2, 5), Number(3, -3),
		Inst(api.Mul, 4, 0, 2), Inst(api.Add, 5, 3, 4), Inst(api.Shl, 6, 5, 2), Inst(api.Not, 7, 6), Inst(api.Neg, 8, 7), Inst(api.Sub, 9, 2, 8), Inst(api.ICopy, 10, 9),
		Inst(api.Add, 11, 4, 0), Inst(api.Add, 12, 4, 1), Inst(api.Mul, 13, 2, 3), Inst(api.Mul, 14, 13, 1), Inst(api.Bang, 15, 2), Inst(api.Shl, 16, 2, 0),
	}
}

// staying answers a closure that tells whether a value is one of some.
func staying(values ...int) func(v int) bool {
	return func(v int) bool { return slices.Contains(values, v) }
}

func TestKnown(t *testing.T) {
	f := Fun(0, Ends(row()...))
	for _, x := range []struct {
		stays []int
		was   api.Dbg
		want  api.Dbg
	}{
		{nil, IsNumber(3, 4), IsNumber(3, 4)},
		{[]int{0}, IsValue(3, 0, 2, 4), IsValue(3, 0, 2, 4)},
		{[]int{0}, IsValue(3, 4, 2, 4), IsValue(3, 0, 10, 4)},
		{[]int{0}, IsValue(0, 10, 1, 0), IsValue(0, 0, -160, 100)},
		{[]int{0, 10}, IsValue(0, 10, 1, 0), IsValue(0, 10, 1, 0)},
		{[]int{6, 0}, IsValue(0, 10, 2, 1), IsValue(0, 6, -2, 9)},
		{[]int{0}, Deeper(2, IsValue(1, 5, -1, 2)), Deeper(2, IsValue(1, 0, -5, 5))},
		{[]int{0}, IsValue(0, 11, 1, 0), IsValue(0, 0, 6, 0)},
		{[]int{0, 1}, IsValue(0, 14, 3, 0), IsValue(0, 1, -45, 0)},
		{nil, IsValue(0, 2, 3, 4), IsNumber(0, 19)},
		{nil, IsValue(0, 13, 3, 4), IsNumber(0, -41)},
		{[]int{2}, IsValue(0, 2, 3, 4), IsValue(0, 2, 3, 4)},
		{nil, IsValue(0, 0, 0, 4), IsNumber(0, 4)},
		{[]int{0}, IsValue(0, 4, 0, 4), IsNumber(0, 4)},
		{[]int{0}, IsValue(0, 4, math.MinInt64, math.MaxInt64), IsValue(0, 0, math.MinInt64, math.MaxInt64)},
		{nil, api.Dbg{Kind: api.DNum, Arg: 9, A: 8, B: 7}, IsNumber(0, 7)},
	} {
		l := lines.New(f, staying(x.stays...))
		if got, is := l.Known(x.was); !is || got != x.want {
			t.Errorf("where %v stay, %+v is told as %v, %+v, want %+v", x.stays, x.was, is, got, x.want)
		}
		if x.was.A != 0 && x.was.Kind == api.DVal && !l.Tells(x.was.Arg) {
			t.Errorf("where %v stay, the value %d isn't told", x.stays, x.was.Arg)
		}
	}
	for _, x := range []struct {
		stays []int
		value int
	}{{nil, 0}, {[]int{1}, 4}, {[]int{1}, 10}, {[]int{0, 1}, 12}, {[]int{0}, 14}, {[]int{0, 1}, 15}, {[]int{0, 1}, 16}, {nil, 99}} {
		l := lines.New(f, staying(x.stays...))
		if got, is := l.Known(IsValue(0, x.value, 1, 1)); is || got != (api.Dbg{}) || l.Tells(x.value) {
			t.Errorf("where %v stay, the value %d is told as %+v", x.stays, x.value, got)
		}
	}
}

// TestOneAnswerEachTime: what was asked for once is told so again.
func TestOneAnswerEachTime(t *testing.T) {
	l := lines.New(Fun(0, Ends(row()...)), staying(0))
	for range 3 {
		for v, want := range map[int]int64{10: -160, 4: 5, 8: 160} {
			if d, is := l.Known(IsValue(0, v, 1, 0)); !is || d.A != want {
				t.Errorf("%d: %+v", v, d)
			}
		}
		if d, is := l.Known(IsValue(0, 12, 1, 0)); is {
			t.Errorf("%+v", d)
		}
	}
}

// TestAgainstWhatIsReckoned: by chance, what a value is told by comes to what it is.
func TestAgainstWhatIsReckoned(t *testing.T) {
	told := 0
	for seed := range uint64(3000) {
		r := rand.New(rand.NewPCG(seed, 1))
		var l []api.Inst
		var is []int64
		for v := range 25 {
			op := []byte{api.Add, api.Sub, api.Mul, api.Shl, api.Neg, api.Not, api.ICopy, api.IConst, api.Xor}[r.IntN(9)]
			if v == 0 {
				op = api.IConst
			}
			x := Inst(op, v)
			if op == api.IConst {
				x.Imm = []int64{r.Int64(), r.Int64N(100) - 50, math.MinInt64}[r.IntN(3)]
				is = append(is, x.Imm)
			} else {
				n, _, _ := code.Shape(op)
				x.Args = []int{r.IntN(v), r.IntN(v)}[:n]
				k := is[x.Args[0]]
				if op != api.ICopy {
					k, _ = source.Value(op, k, is[x.Args[n-1]])
				}
				is = append(is, k)
			}
			l = append(l, x)
		}
		stays := staying(r.IntN(25), r.IntN(25), r.IntN(25))
		lines := lines.New(Fun(0, Ends(l...)), stays)
		for v := range l {
			d, ok := lines.Known(IsValue(0, v, 3, 7))
			if !ok {
				continue
			}
			told++
			n := d.B
			if d.Kind == api.DVal {
				n += d.A * is[d.Arg]
			}
			if n != 3*is[v]+7 || d.Kind == api.DVal && !stays(d.Arg) {
				t.Fatalf("%d: %d is told as %+v, which is %d, of %+v", seed, is[v], d, n, l)
			}
		}
	}
	if told < 40000 {
		t.Error(told)
	}
}
