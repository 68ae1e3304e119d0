package types_test

import (
	"reflect"
	"testing"

	"teasel/samples"
	"teasel/types"
)

const whole = "fn f(p: int, a: arr): int { let x: int; if p < len(a) { x = a[p]; } else { x = -1; } return x; } fn main(): int { let b: arr[4]; let i: int = 0; while i < 3 { b[i] = f(i, b); i = i + 1; } return f(2, b); }"

// TestAnswersAreNewMemory: an answer that is written over, spare room too, leaves all others, and the argument, as they were.
func TestAnswersAreNewMemory(t *testing.T) {
	p := mustParse(t, whole)
	want := plain(knownOf(t, whole))
	first, _, _ := types.Check(p)
	again, _, _ := types.Check(p)
	for i := range first.Points {
		before := plain(first)
		spoilInts(first.Points[i].Seen)
		before.Points[i].Seen = append([]int{}, first.Points[i].Seen...)
		if !same(first, before) {
			t.Fatal("lists of one answer share memory", i)
		}
		spoilInts(first.Points[i].Sure)
		before.Points[i].Sure = append([]int{}, first.Points[i].Sure...)
		if !same(first, before) {
			t.Fatal("lists of one answer share memory", i)
		}
	}
	for _, l := range first.Vars {
		clear(l[:cap(l)])
	}
	clear(first.Vars[:cap(first.Vars)])
	clear(first.Points[:cap(first.Points)])
	if !same(again, want) || !reflect.DeepEqual(p, mustParse(t, whole)) {
		t.Error("an answer hangs together with an earlier one, or with the argument")
	}
}

func spoilInts(l []int) {
	for i := range l[:cap(l)] {
		l[:cap(l)][i] = -7
	}
}

func TestTheSameAnswerEachTime(t *testing.T) {
	for seed := range uint64(200) {
		p := mustParse(t, samples.Text(seed, 4))
		a, at, e := types.Check(p)
		b, bt, f := types.Check(p)
		if !same(a, b) || at != bt || e != f {
			t.Fatal("two answers to one program", seed)
		}
	}
}
