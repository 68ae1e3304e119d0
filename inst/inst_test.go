package inst_test

import (
	"math"
	"math/rand/v2"
	"slices"
	"testing"

	"teasel/api"
	"teasel/inst"
)

func TestTheChaptersExamples(t *testing.T) {
	wantBytes(t, api.Word{Op: api.MNum, A: 3, Imm: -2}, 0x1e, 0x03, 0x01, 0xfe)
	wantBytes(t, api.Word{Op: api.MNum, A: 3, Imm: 128}, 0x1e, 0x03, 0x02, 0x80, 0x00)
	wantBytes(t, api.Word{Op: api.Add, A: 1, B: 2, C: 3}, 0x01, 0x01, 0x02, 0x03)
	wantBytes(t, api.Word{Op: api.MJump, Imm: 300}, 0x2d, 0x02, 0x2c, 0x01)
	wantNone(t, []byte{0x1e, 0x03, 0x02, 0x05, 0x00})
}

// TestEachOp: one of each, with all registers that it names, and a middling Imm.
func TestEachOp(t *testing.T) {
	count := 0
	for op := range 256 {
		r := rowOf(byte(op))
		w := api.Word{Op: byte(op), A: 7, B: 5, C: 3, Imm: 4}
		if r.op != 0 {
			count++
			if !r.names("A") {
				w.A = 0
			}
			if !r.names("B") {
				w.B = 0
			}
			if !r.names("C") {
				w.C = 0
			}
			if !r.hasImm() {
				w.Imm = 0
			}
			if !isRight(w) {
				t.Error(w)
			}
		}
		hold(t, w)
		hold(t, api.Word{Op: byte(op)})
		holdBytes(t, []byte{byte(op)})
	}
	if count != 38 {
		t.Error(count)
	}
}

// TestOpsThatThereAreNot: those of conditions, those between the operations and the machine's own, and beyond.
func TestOpsThatThereAreNot(t *testing.T) {
	for _, op := range []byte{0, api.LAnd, api.LOr, 22, 29, 49, 50, 127, 128, 254, 255} {
		for _, w := range []api.Word{{Op: op}, {Op: op, A: 1}, {Op: op, A: 1, B: 1}, {Op: op, A: 1, B: 1, C: 1}, {Op: op, Imm: 1}, {Op: op, A: 1, Imm: 1}} {
			if inst.Form(w) {
				t.Error(w)
			}
			hold(t, w)
		}
		wantNone(t, []byte{op, 0, 0, 0, 0, 0, 0})
		wantNone(t, []byte{op, 1, 1, 1, 1, 1, 1})
	}
}

// TestRegisters: those that are named and those that aren't, each at its bounds beside others at theirs.
func TestRegisters(t *testing.T) {
	below := byte(0)
	below-- // what a byte has for a register below 0
	for op := range 256 {
		for _, imm := range []int64{0, 1} {
			at := []byte{0, 1, api.Regs - 1, api.Regs, below}
			for _, a := range at {
				for _, b := range at {
					for _, c := range at {
						hold(t, api.Word{Op: byte(op), A: a, B: b, C: c, Imm: imm})
					}
				}
			}
		}
	}
}

// TestRegistersAsBytes: where one is named, a byte that is no register's isn't read.
func TestRegistersAsBytes(t *testing.T) {
	for _, r := range table {
		for i := range r.regs {
			for n := range 256 {
				p := []byte{r.op, 1, 1, 1, 1, 0, 0}
				p[1+i] = byte(n)
				holdBytes(t, p)
				if _, _, e := inst.Decode(p); (e == api.OK) != (n < api.Regs) {
					t.Fatalf("% x: %d", p, e)
				}
			}
		}
	}
}

// TestImmAtItsBounds: of each Op, at the least and the greatest, one beyond, and where it isn't named.
func TestImmAtItsBounds(t *testing.T) {
	for op := range 256 {
		for _, imm := range []int64{math.MinInt64, -1 << 31, -257, -256, -1, 0, 1, 2, 5, 6, 7, 255, 256, 257, 59999, 60000, 60001, 65535, 65536, 1<<31 - 1, 1 << 31, 1<<32 - 1, 1 << 32, math.MaxInt64} {
			for _, a := range []byte{0, 2} {
				hold(t, api.Word{Op: byte(op), A: a, Imm: imm})
			}
		}
	}
	for _, x := range []struct {
		op    byte
		least int64
		most  int64
	}{
		{api.MIn, 0, api.MaxSlots - 1}, {api.MOut, 0, api.MaxSlots - 1}, {api.MAlloc, 1, api.MaxCells}, {api.MGive, 0, api.MaxParams - 1},
		{api.MCall, 0, math.MaxInt64}, {api.MZero, 0, math.MaxInt64}, {api.MMark, 0, math.MaxInt64}, {api.MJump, 0, math.MaxInt64},
	} {
		for imm, want := range map[int64]bool{x.least - 1: false, x.least: true, x.most: true, x.most + 1: false} {
			if inst.Form(api.Word{Op: x.op, Imm: imm}) != want {
				t.Error(x.op, imm)
			}
		}
	}
}

// TestNumbersWithASign: MNum's, at each number of bytes.
func TestNumbersWithASign(t *testing.T) {
	for imm, want := range map[int64][]byte{
		0: {0}, 1: {1, 1}, -1: {1, 0xff}, 127: {1, 0x7f}, 128: {2, 0x80, 0}, -128: {1, 0x80}, -129: {2, 0x7f, 0xff},
		255: {2, 0xff, 0}, 256: {2, 0, 1}, -255: {2, 1, 0xff}, -256: {2, 0, 0xff}, -257: {2, 0xff, 0xfe},
		32767: {2, 0xff, 0x7f}, 32768: {3, 0, 0x80, 0}, -32768: {2, 0, 0x80}, -32769: {3, 0xff, 0x7f, 0xff},
		0x123456: {3, 0x56, 0x34, 0x12}, 0x923456: {4, 0x56, 0x34, 0x92, 0},
		1<<55 - 1: {7, 0xff, 0xff, 0xff, 0xff, 0xff, 0xff, 0x7f}, 1 << 55: {8, 0, 0, 0, 0, 0, 0, 0x80, 0},
		-1 << 55: {7, 0, 0, 0, 0, 0, 0, 0x80}, -1<<55 - 1: {8, 0xff, 0xff, 0xff, 0xff, 0xff, 0xff, 0x7f, 0xff},
		math.MaxInt64: {8, 0xff, 0xff, 0xff, 0xff, 0xff, 0xff, 0xff, 0x7f}, math.MinInt64: {8, 0, 0, 0, 0, 0, 0, 0, 0x80},
	} {
		wantBytes(t, api.Word{Op: api.MNum, A: 9, Imm: imm}, append([]byte{0x1e, 9}, want...)...)
	}
	for size := range 9 {
		for d := int64(-3); d <= 3; d++ {
			for _, base := range []int64{1 << (8 * size), -1 << (8 * size), 1 << max(0, 8*size-1), -1 << max(0, 8*size-1)} {
				hold(t, api.Word{Op: api.MNum, Imm: base + d})
			}
		}
	}
}

// TestNumbersWithoutASign: a jump's, at each number of bytes.
func TestNumbersWithoutASign(t *testing.T) {
	for imm, want := range map[int64][]byte{
		0: {0}, 1: {1, 1}, 127: {1, 127}, 128: {1, 128}, 255: {1, 255}, 256: {2, 0, 1}, 65535: {2, 255, 255}, 65536: {3, 0, 0, 1},
		0x923456: {3, 0x56, 0x34, 0x92}, 1<<56 - 1: {7, 255, 255, 255, 255, 255, 255, 255}, 1 << 56: {8, 0, 0, 0, 0, 0, 0, 0, 1},
		math.MaxInt64: {8, 255, 255, 255, 255, 255, 255, 255, 127},
	} {
		wantBytes(t, api.Word{Op: api.MJump, Imm: imm}, append([]byte{0x2d}, want...)...)
		wantBytes(t, api.Word{Op: api.MMark, Imm: imm}, append([]byte{0x2c}, want...)...)
		wantBytes(t, api.Word{Op: api.MZero, A: 4, Imm: imm}, append([]byte{0x2e, 4}, want...)...)
		wantBytes(t, api.Word{Op: api.MCall, A: 4, Imm: imm}, append([]byte{0x29, 4}, want...)...)
	}
	wantBytes(t, api.Word{Op: api.MIn, A: 1, Imm: 59999}, 0x20, 1, 2, 0x5f, 0xea)
	wantBytes(t, api.Word{Op: api.MOut, A: 1}, 0x21, 1, 0)
	wantBytes(t, api.Word{Op: api.MAlloc, A: 1, Imm: 256}, 0x25, 1, 2, 0, 1)
	wantBytes(t, api.Word{Op: api.MGive, A: 1, Imm: 5}, 0x30, 1, 1, 5)
	for size := range 8 {
		for d := int64(-3); d <= 3; d++ {
			hold(t, api.Word{Op: api.MJump, Imm: 1<<(8*size) + d})
		}
	}
}

// TestBytesThatAreNone: cut off, with more bytes of Imm than there must be, with fewer, with more than 8, with too great a one, with none.
func TestBytesThatAreNone(t *testing.T) {
	for _, p := range [][]byte{
		nil, {0x1e}, {0x1e, 3}, {0x1e, 3, 1}, {0x1e, 3, 2, 5}, {0x1e, 3, 8, 1, 2, 3, 4, 5, 6, 7}, {0x2d}, {0x2d, 1}, {1, 2, 3}, {1}, {0x29, 2},
		{0x1e, 3, 1, 0}, {0x1e, 3, 2, 5, 0}, {0x1e, 3, 2, 0x7f, 0}, {0x1e, 3, 2, 0xff, 0xff}, {0x1e, 3, 2, 0x80, 0xff}, {0x1e, 3, 2, 0, 0}, {0x1e, 3, 3, 0x80, 0, 0}, {0x1e, 3, 8, 1, 0, 0, 0, 0, 0, 0, 0}, {0x1e, 3, 8, 0xff, 0xff, 0xff, 0xff, 0xff, 0xff, 0xff, 0xff},
		{0x2d, 1, 0}, {0x2d, 2, 1, 0}, {0x2d, 2, 0, 0}, {0x2d, 8, 1, 2, 3, 4, 5, 6, 7, 0}, {0x25, 1, 2, 7, 0},
		{0x1e, 3, 9, 1, 2, 3, 4, 5, 6, 7, 8, 9}, {0x1e, 3, 9, 1, 2, 3, 4, 5, 6, 7, 8, 0}, {0x2d, 9, 1, 2, 3, 4, 5, 6, 7, 8, 9}, {0x2d, 9, 1, 2, 3, 4, 5, 6, 7, 8, 0}, {0x2d, 255, 1, 2, 3}, {0x1e, 3, 128},
		{0x2d, 8, 0, 0, 0, 0, 0, 0, 0, 0x80}, {0x2d, 8, 255, 255, 255, 255, 255, 255, 255, 255}, {0x20, 1, 2, 0x60, 0xea}, {0x20, 1, 3, 0, 0, 1}, {0x25, 1, 2, 1, 1}, {0x25, 1, 0}, {0x30, 1, 1, 6},
	} {
		wantNone(t, p)
		holdBytes(t, p)
	}
	// Enough bytes of another number, behind those that are too few, aren't this one's.
	holdBytes(t, []byte{0x1e, 3, 1, 0x80, 0x00})
	holdBytes(t, []byte{0x2d, 1, 0x2c, 0x01})
}

// TestShortBytes: each Op's, with all bytes behind it at which something changes.
func TestShortBytes(t *testing.T) {
	edges := []byte{0, 1, 2, 5, 6, 7, 8, 9, 15, 16, 127, 128, 234, 255}
	for op := range 256 {
		for _, a := range edges {
			holdBytes(t, []byte{byte(op), a})
			for _, b := range edges {
				for _, c := range edges {
					for _, behind := range [][]byte{nil, {0}, {234, 0}, {255, 1}, {0, 0, 0, 0, 0, 0, 127}} {
						holdBytes(t, append([]byte{byte(op), a, b, c}, behind...))
					}
				}
			}
		}
	}
}

// chance answers an instruction by chance that is right.
func chance(r *rand.Rand) api.Word {
	for {
		w := api.Word{Op: byte(1 + r.IntN(48))}
		x := rowOf(w.Op)
		if x.op == 0 {
			continue
		}
		for i, name := range []string{"A", "B", "C"} {
			if x.names(name) {
				*[]*byte{&w.A, &w.B, &w.C}[i] = byte(r.IntN(api.Regs))
			}
		}
		if x.hasImm() {
			w.Imm = int64(r.Uint64() >> r.IntN(64))
		}
		for !isRight(w) {
			w.Imm = int64(r.Uint64() >> (40 + r.IntN(24)))
		}
		return w
	}
}

func TestInstructionsByChance(t *testing.T) {
	for seed := range uint64(20000) {
		r := rand.New(rand.NewPCG(seed, 1))
		w := chance(r)
		hold(t, w)
		p, _ := inst.Encode(w)
		p[r.IntN(len(p))] = byte(r.IntN(256))
		holdBytes(t, p)
		holdBytes(t, append(p, byte(r.IntN(256)), byte(r.IntN(256))))
		switch r.IntN(5) {
		case 0:
			w.Op = byte(r.IntN(256))
		case 1:
			w.A = byte(r.IntN(256))
		case 2:
			w.B = byte(r.IntN(256))
		case 3:
			w.C = byte(r.IntN(256))
		default:
			w.Imm = int64(r.Uint64())
		}
		hold(t, w)
	}
}

func TestTraps(t *testing.T) {
	want := []byte{api.Div, api.Rem, api.MLoad, api.MStore, api.MRead, api.MCall}
	for op := range 256 {
		if got := inst.Traps(byte(op)); got != slices.Contains(want, byte(op)) {
			t.Error(op, got)
		}
	}
}
