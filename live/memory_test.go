package live_test

import (
	"reflect"
	"testing"

	"teasel/api"
	"teasel/code"
	"teasel/live"
	"teasel/samples"
)

// answers are all that is told of a function.
type answers struct {
	begins [][]int
	ends   [][]int
	ahead  []int
	pairs  [][2]int
}

func ask(c api.Code, fn int) answers {
	var a answers
	a.begins, a.ends, _ = live.Ends(c, fn, true)
	a.ahead, _ = live.Ahead(c, fn, true, 0, 0)
	for i, b := range c.Funs[fn].Blocks {
		for at := range b.Insts {
			if l, _ := live.Ahead(c, fn, true, i, at); len(l) > len(a.ahead) {
				a.ahead = l
			}
		}
	}
	a.pairs, _ = live.Clashes(c, fn, true)
	return a
}

// spoil writes over a list, its spare room too.
func spoil[T any](l []T) {
	clear(l[:cap(l)])
}

// spoilAll writes over all lists of answers.
func (a answers) spoilAll() {
	for _, l := range [][][]int{a.begins, a.ends} {
		for _, values := range l {
			spoil(values)
		}
		spoil(l)
	}
	spoil(a.ahead)
	spoil(a.pairs)
}

// TestAnswersAreNewMemory: whoever writes over an answer, or over what was handed in, changes no other answer; what is handed in stays as it is.
func TestAnswersAreNewMemory(t *testing.T) {
	for seed := range uint64(60) {
		c := samples.Loops(seed, 12)
		before := code.Copy(c)
		want, first, again := ask(c, 0), ask(c, 0), ask(c, 0)
		if !reflect.DeepEqual(c, before) || !reflect.DeepEqual(first, want) {
			t.Fatal("it changes what is handed in, or gives two answers to one question", seed)
		}
		again.spoilAll()
		for _, b := range c.Funs[0].Blocks {
			for _, l := range [][]api.Inst{b.Phis, b.Insts} {
				for _, x := range l {
					spoil(x.Args)
					spoil(x.Dbg)
				}
				spoil(l)
			}
		}
		if !reflect.DeepEqual(first, want) {
			t.Fatal("an answer shares memory with another one, or with what was handed in", seed)
		}
	}
}

// TestListsOfOneAnswer: none stands in the spare room of another one.
func TestListsOfOneAnswer(t *testing.T) {
	for seed := range uint64(60) {
		a, want := ask(samples.Loops(seed, 12), 0), ask(samples.Loops(seed, 12), 0)
		for k, l := range [][][]int{a.begins, a.ends} {
			for i := range l {
				spoil(l[i])
				l[i] = append([]int(nil), [][][]int{want.begins, want.ends}[k][i]...)
				if !reflect.DeepEqual(a, want) {
					t.Fatal("two lists share memory", seed)
				}
			}
		}
	}
}
