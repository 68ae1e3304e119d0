package vm_test

import (
	"math"
	"math/rand/v2"
	"testing"

	"teasel/api"
)

// chances makes images and inputs out of what next answers: numbers from 0 to below what it is asked.
type chances struct {
	next func(below int) int
	funs int
	size int
}

func (c chances) pick(l ...int64) int64 {
	return l[c.next(len(l))]
}

// register answers mostly one of a few, so that what one instruction makes another one takes; 0 and 1 are mostly arrays.
func (c chances) register() byte {
	if c.next(60) == 0 {
		return byte(c.next(17))
	}
	return byte(2 + c.next(5))
}

func (c chances) word() api.Word {
	a, b, d := c.register(), c.register(), c.register()
	seldom := 0
	if c.next(12) == 0 {
		seldom = 1
	}
	switch c.next(24) {
	case 0, 1, 2:
		return number(a, c.pick(0, 1, 2, 3, 5, -1, 64, math.MinInt64, math.MaxInt64))
	case 3, 4, 5:
		return op(byte(1+c.next(16)), a, b, d)
	case 6:
		return op(byte(c.pick(api.Neg, api.Not, api.Bang, api.MMove)), a, b)
	case 7:
		return with(api.MIn, int64(c.next(2+seldom)), a)
	case 8:
		return with(api.MOut, int64(c.next(2+seldom)), a)
	case 9:
		return op(api.MLoad, a, byte(c.next(2)), 2)
	case 10:
		return op(api.MStore, byte(c.next(2)), 2, d)
	case 11:
		return op(api.MLen, a, byte(c.next(2)))
	case 12:
		return with(api.MAlloc, c.pick(1, 2, 3, 5, 8, 255, 256), byte(c.next(2)))
	case 13:
		return op(byte(c.pick(api.MTop, api.MTop, api.MTop, api.MFree)), byte(6+c.next(2)))
	case 14, 15:
		return op(api.MArg, a)
	case 16, 17:
		return with(api.MCall, int64(c.next(c.funs+seldom)), a)
	case 18:
		return shows(a)
	case 19:
		return op(byte(c.pick(api.MRead, api.MPrint, api.MPrint, api.MRet)), a)
	case 20, 21:
		return with(api.MMark, int64(c.next(3)))
	case 22:
		return with(byte(c.pick(api.MJump, api.MZero, api.MZero)), int64(c.next(c.size+60*seldom)))
	}
	if c.next(3) > 0 {
		return number(2, int64(c.next(3)))
	}
	return with(api.MGive, int64(c.next(1+seldom)), a)
}

// words answers some, of which now and then one isn't right.
func (c chances) words(n int) []api.Word {
	var l []api.Word
	for range n {
		w := c.word()
		if c.next(60) == 0 {
			w.Imm = c.pick(-1, 300, math.MaxInt64)
		}
		l = append(l, w)
	}
	return l
}

// image answers one of some functions, each of which has numbers and an array at first.
func (c chances) image() (api.Image, []int64) {
	c.funs, c.size = 1+c.next(3), 24
	var img api.Image
	for range c.funs {
		img.Entries = append(img.Entries, api.Entry{At: len(img.Words), Slots: 1 + c.next(4)})
		if c.next(5) > 0 {
			img.Words = append(img.Words, with(api.MAlloc, 3, 0), with(api.MAlloc, 2, 1), number(2, c.pick(0, 1, 2)))
		}
		img.Words = append(img.Words, c.words(4+c.next(16))...)
		img.Words = append(img.Words, op(api.MRet, byte(2+c.next(5))))
	}
	img.Main = c.next(c.funs)
	if c.next(50) == 0 {
		img.Entries[c.next(c.funs)].Slots = int(c.pick(-1, api.MaxSlots+1))
	}
	if c.next(50) == 0 {
		img.Entries[c.next(c.funs)].At = int(c.pick(-1, 99))
	}
	var input []int64
	for range c.next(5) {
		input = append(input, c.pick(0, 1, 2, 7, -1))
	}
	return img, input
}

// TestImagesByChance: each step by the measure; and there are runs to all ends.
func TestImagesByChance(t *testing.T) {
	ends := map[byte]int{}
	steps := 0
	for seed := range uint64(2000) {
		r := rand.New(rand.NewPCG(seed, 12))
		img, input := chances{next: r.IntN}.image()
		l := hold(t, img, input, 120)
		ends[l[len(l)-1].status.End]++
		steps += len(l) - 1
		if seed%10 == 0 {
			holdBytesByChance(t, r, img, input, len(l)-1)
		}
	}
	for _, end := range []byte{0, api.Halt, api.TrapZero, api.TrapCell, api.TrapIn, api.StopHeap, api.Wrong} {
		if ends[end] < 5 {
			t.Error("too few runs end so:", end, ends)
		}
	}
	if steps < 50000 {
		t.Error("the runs are too short:", steps)
	}
}

// holdBytesByChance holds Load of what was saved, with some bytes or numbers others.
func holdBytesByChance(t *testing.T, r *rand.Rand, img api.Image, input []int64, steps int) {
	t.Helper()
	p := ahead(t, img, input, r.IntN(steps+1)).Save()
	l := numbersOf(t, p)
	for range 20 {
		l[r.IntN(len(l))] = int64(r.IntN(9) - 2)
		wantNoneOrIts(t, img, input, bytesOf(l))
		p[r.IntN(len(p))] = byte(r.IntN(256))
		wantNoneOrIts(t, img, input, p)
	}
}

// FuzzVm takes an image, an input and what is loaded out of bytes.
func FuzzVm(f *testing.F) {
	r := rand.New(rand.NewPCG(3, 3))
	for range 8 {
		p := make([]byte, 400)
		for i := range p {
			p[i] = byte(r.IntN(256))
		}
		f.Add(p, uint16(r.IntN(100)), []byte{byte(r.IntN(20)), 1})
	}
	f.Fuzz(func(t *testing.T, p []byte, steps uint16, changes []byte) {
		at := 0
		img, input := chances{next: func(below int) int {
			if at == len(p) {
				return 0
			}
			at++
			return int(p[at-1]) % below
		}}.image()
		hold(t, img, input, 60)
		m := begin(t, img, input)
		m.Run(int(steps))
		saved := m.Save()
		for i := 0; i+1 < len(changes); i += 2 {
			saved[int(changes[i])%len(saved)] ^= changes[i+1]
			wantNoneOrIts(t, img, input, saved)
		}
		wantNoneOrIts(t, img, input, changes)
	})
}
