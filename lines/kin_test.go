package lines_test

import (
	"math"
	"math/rand/v2"
	"testing"

	"teasel/api"
	"teasel/lines"
	. "teasel/parts"
	"teasel/samples"
)

// TestKins: from which value each of a row comes, and which are numbers.
func TestKins(t *testing.T) {
	f := Fun(0, Ends(row()...))
	l := lines.Kins(f)
	if len(l) != f.Vals {
		t.Fatal(len(l))
	}
	for v, want := range map[int]int{0: 0, 1: 1, 4: 0, 5: 0, 6: 0, 7: 0, 8: 0, 9: 0, 10: 0, 11: 0, 12: 12, 14: 1, 15: 15, 16: 16, 17: 17, 49: 49} {
		of, is := l[v].Of()
		if _, number := l[v].Number(); of != want || !is || number {
			t.Errorf("%d comes from %d, %v, not from %d", v, of, is, want)
		}
	}
	for v, want := range map[int]int64{2: 5, 3: -3, 13: -15} {
		n, is := l[v].Number()
		if _, of := l[v].Of(); n != want || !is || of {
			t.Errorf("%d is %d, %v, not %d", v, n, is, want)
		}
	}
}

// TestBy: values by others that come from the same, made ahead and behind.
func TestBy(t *testing.T) {
	l := lines.Kins(Fun(0, Ends(row()...)))
	for _, x := range []struct {
		v, by int
		a, b  int64
		is    bool
	}{
		{4, 0, 5, 0, true}, {5, 0, 5, -3, true}, {5, 4, 1, -3, true}, {4, 5, 1, 3, true},
		{0, 4, -3689348814741910323, 0, true}, // 5 times that is 1, modulo 2^64
		{0, 11, 0, 0, false},                  // 6 times a number has lost a bit
		{7, 6, -1, -1, true}, {8, 7, -1, 0, true}, {9, 10, 1, 0, true},
		{4, 6, 0, 0, false}, {13, 4, 0, -15, true}, {4, 13, 0, 0, false},
	} {
		a, b, is := l[x.v].By(l[x.by])
		if is != x.is || a != x.a || b != x.b {
			t.Errorf("%d by %d: %d, %d, %v", x.v, x.by, a, b, is)
		}
	}
}

// TestKinsByChance: what is told is so, whatever is read; what comes from one and the same is told by it.
func TestKinsByChance(t *testing.T) {
	told := 0
	for seed := range uint64(300) {
		f := samples.Rows(seed).Funs[0]
		r := rand.New(rand.NewPCG(seed, 7))
		l := lines.Kins(f)
		for range 3 {
			values := reckoned(f, r)
			for v, k := range l {
				if n, is := k.Number(); is && n != values[v] {
					t.Fatalf("%d is %d, not %d", v, n, values[v])
				}
				of, is := k.Of()
				if !is {
					continue
				}
				if _, _, is := k.By(l[of]); !is {
					t.Fatalf("%d isn't told by %d, from which it comes", v, of)
				}
				for w, other := range l {
					if from, is := other.Of(); !is || from != of {
						continue
					}
					if a, b, is := k.By(other); is {
						told++
						if a*values[w]+b != values[v] {
							t.Fatalf("%d by %d: %d times %d, and %d, isn't %d", v, w, a, values[w], b, values[v])
						}
					}
				}
			}
		}
	}
	if told < 10000 {
		t.Error(told)
	}
}

// reckoned answers what a row's values are, where numbers by chance are read.
func reckoned(f api.Fun, r *rand.Rand) []int64 {
	values := make([]int64, f.Vals)
	for _, x := range f.Blocks[0].Insts {
		if x.Dst < 0 {
			continue
		}
		arg := func(i int) int64 { return values[x.Args[i]] }
		n := int64(0)
		switch x.Op {
		case api.IRead:
			n = int64(r.Uint64())
			if r.IntN(3) == 0 {
				n = []int64{0, 1, -1, math.MinInt64, math.MaxInt64}[r.IntN(5)]
			}
		case api.IConst:
			n = x.Imm
		case api.ICopy:
			n = arg(0)
		case api.Neg:
			n = -arg(0)
		case api.Not:
			n = ^arg(0)
		case api.Add:
			n = arg(0) + arg(1)
		case api.Sub:
			n = arg(0) - arg(1)
		case api.Mul:
			n = arg(0) * arg(1)
		case api.Shl:
			n = arg(0) << (uint64(arg(1)) % 64)
		case api.Xor:
			n = arg(0) ^ arg(1)
		}
		values[x.Dst] = n
	}
	return values
}
