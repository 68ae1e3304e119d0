package alloc_test

import (
	"reflect"
	"testing"

	"teasel/alloc"
	"teasel/api"
	"teasel/code"
	"teasel/samples"
)

// answers are all that is told of code, but Split, of the first function.
type answers struct {
	places [][]alloc.Place
	told   [][]api.Dbg
}

func ask(c api.Code) answers {
	var a answers
	for _, all := range []bool{false, true} {
		l, _ := alloc.Places(c, 0, all)
		a.places = append(a.places, l)
		for i, b := range c.Funs[0].Blocks {
			for at := range b.Insts {
				d, _ := alloc.Recovers(c, 0, all, i, at)
				a.told = append(a.told, d)
			}
		}
	}
	return a
}

// spoil writes over a list, its spare room too.
func spoil[T any](l []T) {
	clear(l[:cap(l)])
}

// TestAnswersAreNewMemory: whoever writes over an answer, or over what was handed in, changes no other answer; what is handed in stays as it is.
func TestAnswersAreNewMemory(t *testing.T) {
	for seed := range uint64(60) {
		c := samples.Loops(seed, 12)
		if seed%2 == 0 {
			c = samples.Rows(seed)
		}
		before := code.Copy(c)
		want, first, again := ask(c), ask(c), ask(c)
		if !reflect.DeepEqual(c, before) || !reflect.DeepEqual(first, want) {
			t.Fatal("it changes what is handed in, or gives two answers to one question", seed)
		}
		for i := range again.told {
			spoil(again.told[i])
		}
		for i := range again.places {
			spoil(again.places[i])
		}
		for _, b := range c.Funs[0].Blocks {
			for _, l := range [][]api.Inst{b.Phis, b.Insts} {
				for _, x := range l {
					spoil(x.Args)
					spoil(x.Dbg)
				}
				spoil(l)
			}
		}
		if !reflect.DeepEqual(first, want) {
			t.Fatal("an answer shares memory with another one, or with what was handed in", seed)
		}
	}
}
