package emit_test

import (
	"reflect"
	"testing"

	"teasel/api"
	"teasel/code"
	"teasel/emit"
	"teasel/samples"
)

// wipe writes over all lists of code, their spare room too.
func wipe(c api.Code) {
	for _, f := range c.Funs[:cap(c.Funs)] {
		for _, b := range f.Blocks[:cap(f.Blocks)] {
			for _, l := range [][]api.Inst{b.Phis[:cap(b.Phis)], b.Insts[:cap(b.Insts)]} {
				for _, x := range l {
					clear(x.Args[:cap(x.Args)])
					clear(x.Dbg[:cap(x.Dbg)])
				}
				clear(l)
			}
		}
		clear(f.Blocks[:cap(f.Blocks)])
	}
	clear(c.Funs[:cap(c.Funs)])
	for _, s := range c.Stops[:cap(c.Stops)] {
		clear(s[:cap(s)])
	}
	clear(c.Stops[:cap(c.Stops)])
}

// TestWhatIsHandedInIsNotChanged: right code and wrong code. (Of its spare room package rules asks.)
func TestWhatIsHandedInIsNotChanged(t *testing.T) {
	t.Parallel()
	for seed := range uint64(500) {
		c := plainCode(t, seed)
		if seed%3 == 0 {
			c = samples.Code(seed, int(seed%2), int(seed%5))
		}
		before := code.Copy(c)
		emit.Image(c, seed%2 == 0)
		for _, opt := range []byte{0, 1, 2, 4, 8, 16, 32, emit.All, 99} {
			emit.Passes(c, opt)
		}
		if !reflect.DeepEqual(c, before) {
			t.Fatal("what is handed in is changed", seed)
		}
	}
}

// TestAnswersAreNewMemory: whoever writes over what was handed in, or over an earlier answer, changes no other.
func TestAnswersAreNewMemory(t *testing.T) {
	t.Parallel()
	for seed := range uint64(300) {
		c := plainCode(t, seed)
		opt := byte(seed) % 64
		first, again := mustPass(t, c, opt), mustPass(t, c, opt)
		img, second := mustImage(t, c, true), mustImage(t, c, true)
		want, wantImage := code.Copy(first), copied(img)
		wipe(again)
		clear(second.Words[:cap(second.Words)])
		clear(second.Entries[:cap(second.Entries)])
		clear(second.Debug[:cap(second.Debug)])
		wipe(c)
		if !reflect.DeepEqual(first, want) || !reflect.DeepEqual(img, wantImage) {
			t.Fatal("answers share memory", seed)
		}
	}
}

// copied answers the same image, in memory of its own.
func copied(img api.Image) api.Image {
	img.Words = append([]api.Word{}, img.Words...)
	img.Entries = append([]api.Entry{}, img.Entries...)
	img.Debug = append([]byte{}, img.Debug...)
	return img
}
