package vet_test

import (
	"bytes"
	"math"
	"math/rand/v2"
	"slices"
	"testing"

	"teasel/api"
	"teasel/inst"
	"teasel/locs"
	"teasel/vet"
)

// chance answers a sound image, made out of what next answers: numbers from 0 to below what it is asked.
func chance(next func(below int) int) (api.Image, api.Debug) {
	size, funs, slots := 1+next(12), 1+next(3), 1+next(5)
	var img api.Image
	for range funs {
		img.Entries = append(img.Entries, api.Entry{At: next(size), Slots: next(slots + 1)})
	}
	img.Entries[next(funs)].Slots = slots
	img.Main = next(funs)
	d := api.Debug{Stops: [][]api.Spot{{{}}}, Marks: make([]api.Mark, 1+next(3))}
	bound := map[byte]int{api.MIn: slots, api.MOut: slots, api.MCall: funs, api.MJump: size, api.MZero: size, api.MMark: len(d.Marks), api.MAlloc: 1, api.MGive: 6}
	ops := []byte{api.Add, api.Div, api.Rem, api.Neg, api.MNum, api.MIn, api.MOut, api.MLoad, api.MStore, api.MAlloc, api.MCall, api.MRead, api.MMark, api.MJump, api.MZero, api.MRet, api.MGive}
	for at := range size {
		op := ops[next(len(ops))]
		if at == size-1 {
			op = []byte{api.MJump, api.MRet}[next(2)]
		}
		w := api.Word{Op: op}
		if n := bound[op]; n > 0 {
			w.Imm = int64(next(n))
		}
		if op == api.MAlloc {
			w.Imm++
		}
		img.Words = append(img.Words, w)
		if inst.Traps(op) {
			d.Sites = append(d.Sites, api.Site{At: at, Mark: next(len(d.Marks))})
		}
	}
	return img, d
}

// spoil changes one thing, mostly by one.
func spoil(img *api.Image, d *api.Debug, next func(below int) int) {
	step := []int{-1, 1, 1, 2, math.MinInt, math.MaxInt}[next(6)]
	switch next(8) {
	case 0:
		img.Main += step
	case 1:
		img.Entries[next(len(img.Entries))].Slots += step
	case 2:
		img.Entries[next(len(img.Entries))].At += step
	case 3:
		img.Words[next(len(img.Words))].Imm += int64(step)
	case 4:
		img.Words[next(len(img.Words))].Op = byte(next(50))
	case 5:
		d.Marks = d.Marks[min(1, len(d.Marks)):]
	case 6:
		if len(d.Sites) > 0 {
			at := next(len(d.Sites))
			d.Sites = slices.Delete(d.Sites, at, at+1)
		}
	case 7:
		at := next(len(img.Words) + 2)
		if _, had := slices.BinarySearchFunc(d.Sites, at, func(x api.Site, at int) int { return x.At - at }); !had {
			d.Sites = append(d.Sites, api.Site{At: at})
			slices.SortFunc(d.Sites, func(a, b api.Site) int { return a.At - b.At })
		}
	}
}

// holdOne holds a sound image, and it with some things changed; and answers the error of the last one.
func holdOne(t *testing.T, next func(below int) int) api.Errno {
	t.Helper()
	img, d := chance(next)
	img.Debug, _ = locs.Encode(d)
	want(t, img, 0, api.OK)
	for range next(3) {
		spoil(&img, &d, next)
		if p, e := locs.Encode(d); e == api.OK {
			img.Debug = p
		} else {
			img.Debug = nil
		}
		hold(t, img)
	}
	_, e := vet.Check(img)
	return e
}

func TestImagesByChance(t *testing.T) {
	errors := map[api.Errno]int{}
	for seed := range uint64(30000) {
		r := rand.New(rand.NewPCG(seed, 23))
		errors[holdOne(t, r.IntN)]++
	}
	for _, e := range []api.Errno{api.OK, api.ErrArg, api.ErrForm, api.ErrRange, api.ErrNone, api.ErrText} {
		if errors[e] < 300 {
			t.Error("too few images with the error", e, errors)
		}
	}
}

// TestMemory: what is handed in comes back as it was, spare room too.
func TestMemory(t *testing.T) {
	img := sound(t)
	img.Words = append(img.Words, img.Words...)[:len(img.Words)]
	img.Entries = append(img.Entries, img.Entries...)[:len(img.Entries)]
	img.Debug = append(img.Debug, img.Debug...)[:len(img.Debug)]
	words, entries, debug := slices.Clone(img.Words[:20]), slices.Clone(img.Entries[:4]), bytes.Clone(img.Debug[:2*len(img.Debug)])
	for range 2 {
		want(t, img, 0, api.OK)
	}
	if !slices.Equal(img.Words[:20], words) || !slices.Equal(img.Entries[:4], entries) || !bytes.Equal(img.Debug[:len(debug)], debug) {
		t.Error("what is handed in has changed")
	}
}

func FuzzCheck(f *testing.F) {
	f.Add([]byte("some bytes to make an image of, and then to spoil it"))
	f.Add([]byte{9, 2, 3, 1, 0, 2, 1, 7, 5, 0, 200, 3, 77, 12, 1, 1, 4, 9, 0, 2, 2, 3, 4, 5, 6, 7, 8})
	f.Fuzz(func(t *testing.T, p []byte) {
		at := 0
		next := func(below int) int {
			if at == len(p) {
				return 0
			}
			at++
			return int(p[at-1]) % below
		}
		holdOne(t, next)
		hold(t, api.Image{Words: []api.Word{{Op: api.MRet}}, Entries: []api.Entry{{}}, Debug: p})
	})
}
