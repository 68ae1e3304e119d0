package inst_test

import (
	"bytes"
	"math/rand/v2"
	"slices"
	"testing"

	"teasel/api"
	"teasel/inst"
)

// holdList holds Pack of instructions that are right, and Unpack of their bytes.
func holdList(t *testing.T, l []api.Word) []byte {
	t.Helper()
	var want []byte
	for _, w := range l {
		want = append(want, bytesOf(w)...)
	}
	p, e := inst.Pack(l)
	if e != api.OK || !bytes.Equal(p, want) {
		t.Fatalf("Pack of %d instructions answers %d bytes, want %d; %d", len(l), len(p), len(want), e)
	}
	wantWords(t, p, l)
	return p
}

func wantWords(t *testing.T, p []byte, want []api.Word) {
	t.Helper()
	if got, e := inst.Unpack(p); e != api.OK || !slices.Equal(got, want) {
		t.Fatalf("Unpack of %d bytes answers %d instructions, want %d; %d", len(p), len(got), len(want), e)
	}
}

// wantNoBytes and wantNoWords hold that there is nothing but an error.
func wantNoBytes(t *testing.T, l []api.Word, want api.Errno) {
	t.Helper()
	if p, e := inst.Pack(l); p != nil || e != want {
		t.Errorf("Pack of %d instructions answers %d bytes; %d, want %d", len(l), len(p), e, want)
	}
}

func wantNoWords(t *testing.T, p []byte, want api.Errno) {
	t.Helper()
	if l, e := inst.Unpack(p); l != nil || e != want {
		t.Errorf("Unpack of %d bytes answers %d instructions; %d, want %d", len(p), len(l), e, want)
	}
}

func several(r *rand.Rand, n int) []api.Word {
	var l []api.Word
	for range n {
		l = append(l, chance(r))
	}
	return l
}

func TestNoInstruction(t *testing.T) {
	holdList(t, nil)
	holdList(t, []api.Word{})
	wantWords(t, []byte{}, nil)
}

func TestSomeInstructions(t *testing.T) {
	l := []api.Word{{Op: api.MNum, Imm: 7}, {Op: api.MPrint}, {Op: api.MMark}, {Op: api.MRet}}
	if p := holdList(t, l); !bytes.Equal(p, []byte{0x1e, 0, 1, 7, 0x2a, 0, 0x2c, 0, 0x2f, 0}) {
		t.Errorf("% x", p)
	}
	for seed := range uint64(2000) {
		r := rand.New(rand.NewPCG(seed, 2))
		holdList(t, several(r, r.IntN(9)))
	}
}

// TestOneThatIsNotRight: among right ones, at each place.
func TestOneThatIsNotRight(t *testing.T) {
	r := rand.New(rand.NewPCG(1, 3))
	l := several(r, 6)
	for i := range l {
		for _, w := range []api.Word{{}, {Op: api.LAnd}, {Op: api.Add, C: 16}, {Op: api.MTop, B: 1}, {Op: api.MJump, Imm: -1}, {Op: api.MAlloc}} {
			bad := slices.Clone(l)
			bad[i] = w
			wantNoBytes(t, bad, api.ErrForm)
		}
		ahead, behind := holdList(t, l[:i]), holdList(t, l[i:])
		for _, p := range [][]byte{{0}, {17, 1, 1, 1}, {1, 1, 1, 16}, {0x2d, 1, 0}, {0x25, 0, 0}, {0x1e, 1, 9}} {
			wantNoWords(t, slices.Concat(ahead, p, behind), api.ErrForm)
		}
	}
}

// TestBytesBehindTheLastOne: what is no whole instruction, and what was cut off of one.
func TestBytesBehindTheLastOne(t *testing.T) {
	for seed := range uint64(500) {
		r := rand.New(rand.NewPCG(seed, 4))
		l := several(r, 1+r.IntN(5))
		p := holdList(t, l)
		last := bytesOf(l[len(l)-1])
		for cut := 1; cut < len(last); cut++ {
			wantNoWords(t, p[:len(p)-cut], api.ErrForm)
		}
		wantWords(t, p[:len(p)-len(last)], l[:len(l)-1])
		wantNoWords(t, append(p, 0), api.ErrForm)
		wantNoWords(t, append(p, 255), api.ErrForm)
	}
}

// TestManyInstructions: MaxWords, one more, and one that isn't right beside them.
func TestManyInstructions(t *testing.T) {
	l := several(rand.New(rand.NewPCG(1, 5)), 1000)
	for len(l) < api.MaxWords {
		l = append(l, l[:min(len(l), api.MaxWords-len(l))]...)
	}
	p := holdList(t, l)
	for _, w := range []api.Word{{Op: api.MRet}, {}, {Op: api.MRet, B: 1}} {
		wantNoBytes(t, append(slices.Clone(l), w), api.ErrLong)
		wantNoBytes(t, append([]api.Word{w}, l...), api.ErrLong)
	}
	wrong := slices.Clone(l)
	wrong[len(wrong)-1] = api.Word{}
	wantNoBytes(t, wrong, api.ErrForm)
	// What stands behind isn't looked at, be it an instruction or not; what stands ahead is.
	for _, behind := range [][]byte{{0x2f, 0}, {0x2f, 0, 0x2f, 0, 0}, {0}, {0x2f}, {0x1e, 3, 2, 5, 0}, {255, 255}} {
		wantNoWords(t, append(bytes.Clone(p), behind...), api.ErrLong)
		wantNoWords(t, slices.Concat([]byte{0}, p, behind), api.ErrForm)
	}
	last := bytesOf(l[len(l)-1])
	almost := p[:len(p)-len(last)]
	wantWords(t, almost, l[:len(l)-1])
	wantNoWords(t, append(bytes.Clone(almost), 0, 0x2f, 0, 0x2f, 0), api.ErrForm)
	wantNoWords(t, append(bytes.Clone(almost), 0x1e, 3), api.ErrForm)
	wantNoWords(t, append(bytes.Clone(almost), 0x2f, 0, 0), api.ErrLong)
}

// TestMemory: what is handed in stays as it is, spare room too, and no answer shares memory with it or with another one.
func TestMemory(t *testing.T) {
	for seed := range uint64(200) {
		r := rand.New(rand.NewPCG(seed, 6))
		words := several(r, 12)
		before := slices.Clone(words)
		l := words[:9]
		first := holdList(t, l)
		again := holdList(t, l)
		clear(again[:cap(again)])
		if !slices.Equal(words, before) || !bytes.Equal(first, holdList(t, before[:9])) {
			t.Fatal("Pack's memory is shared, or changed", seed)
		}
		room := append(bytes.Clone(first), 7, 7, 7, 7)
		held := bytes.Clone(room)
		p := room[:len(first)]
		got, _ := inst.Unpack(p)
		others, _ := inst.Unpack(p)
		clear(others[:cap(others)])
		if w, n, e := inst.Decode(p); e != api.OK || w != l[0] || n != len(bytesOf(w)) || !bytes.Equal(room, held) {
			t.Fatal("what is handed in is changed", seed)
		}
		clear(room)
		if !slices.Equal(got, l) {
			t.Fatal("Unpack's memory is shared", seed)
		}
		one, _ := inst.Encode(l[0])
		two, _ := inst.Encode(l[0])
		clear(one[:cap(one)])
		if !bytes.Equal(two, bytesOf(l[0])) {
			t.Fatal("Encode's memory is shared", seed)
		}
	}
}

func FuzzInst(f *testing.F) {
	f.Add([]byte{0x1e, 3, 2, 0x80, 0, 1, 1, 2, 3})
	f.Add([]byte{0x2d, 2, 0x2c, 1, 0x1e, 3, 2, 5, 0})
	f.Fuzz(func(t *testing.T, p []byte) {
		holdBytes(t, p)
		var l []api.Word
		rest := p
		for len(rest) > 0 {
			w, n, is := begins(rest)
			if !is {
				wantNoWords(t, p, api.ErrForm)
				break
			}
			hold(t, w)
			l, rest = append(l, w), rest[n:]
		}
		q := holdList(t, l)
		if !bytes.Equal(q, p[:len(p)-len(rest)]) {
			t.Fatalf("% x: % x", p, q)
		}
	})
}
