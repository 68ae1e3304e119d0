package source_test

import (
	"reflect"
	"slices"
	"strings"
	"testing"

	"teasel/api"
	"teasel/samples"
	"teasel/source"
)

const reading = "fn f(a: arr, n: int): int { a[n] = read(); if n > 0 { return f(a, n - 1) + a[n]; } return a[0]; } fn main(): int { let a: arr[3]; print f(a, 2); print read(); return len(a); }"

func TestWhatIsHandedInIsNotKept(t *testing.T) {
	p := mustParse(t, reading)
	input := nums(5, 6, 7, 8)
	r, _ := source.Run(p, input, source.MaxEntries)
	l, _, _ := source.State(p, input, 5)
	before := plain(l)
	clear(input)
	for _, f := range p.Funcs {
		clear(f.Body)
	}
	if !slices.Equal(r.Outs, nums(18, 8)) || !reflect.DeepEqual(plain(l), before) {
		t.Error("an answer hangs together with what was handed in")
	}
}

func TestAnswersAreNewMemory(t *testing.T) {
	p := mustParse(t, reading)
	first, _ := source.Run(p, nums(5, 6, 7, 8), 99)
	again, _ := source.Run(p, nums(5, 6, 7, 8), 99)
	clear(first.Outs[:cap(first.Outs)])
	if !slices.Equal(again.Outs, nums(18, 8)) {
		t.Error("two answers share memory")
	}
}

func TestTheSameAnswerEachTime(t *testing.T) {
	for seed := range uint64(100) {
		p := mustParse(t, samples.Text(seed, 0))
		a, _ := source.Run(p, nums(1, 2, 3), 500)
		l, n, e := source.State(p, nums(1, 2, 3), 7)
		source.Run(p, nums(9), 3)
		b, _ := source.Run(p, nums(1, 2, 3), 500)
		k, m, g := source.State(p, nums(1, 2, 3), 7)
		if !reflect.DeepEqual(a, b) || !reflect.DeepEqual(l, k) || n != m || e != g {
			t.Fatal("two answers to one question", seed)
		}
	}
}

// TestManyCallsDeepInExpressions: calls that are open, each deep in an expression, as many as there can be entries for.
func TestManyCallsDeepInExpressions(t *testing.T) {
	deep := strings.Repeat("-", 2000)
	s := "fn f(n: int): int { if n == 0 { return 1; } return " + deep + "f(n - 1); } fn main(): int { return f(9000); }"
	wantRun(t, s, nil, source.MaxEntries, source.Result{End: api.Halt, Exit: 1, Entries: 18003, Calls: 9002})
	s = "fn f(): int { return " + strings.Repeat("-", 19900) + "f(); } fn main(): int { return f(); }"
	wantRun(t, s, nil, source.MaxEntries, source.Result{End: api.StopFuel, Entries: source.MaxEntries, Calls: source.MaxEntries + 1})
	s = "fn f(): int { return " + strings.Repeat("(1 + ", 190) + "f()" + strings.Repeat(")", 190) + "; } fn main(): int { return f(); }"
	wantRun(t, s, nil, source.MaxEntries, source.Result{End: api.StopFuel, Entries: source.MaxEntries, Calls: source.MaxEntries + 1})
	l, _, e := source.State(mustParse(t, s), nil, source.MaxEntries)
	if e != api.OK || len(l) != source.MaxEntries || l[0].Stmt != 1 || l[source.MaxEntries-1].Stmt != 2 {
		t.Error("the state has not all calls", len(l), e)
	}
}

func TestManyArrays(t *testing.T) {
	s := "fn f(n: int): int { let a: arr[256]; a[0] = n; if n > 1 { f(n - 1); } return a[0]; } fn main(): int { return f(4000); }"
	wantRun(t, s, nil, source.MaxEntries, source.Result{End: api.Halt, Exit: 4000, Entries: source.MaxEntries, Calls: 4001, Cells: 4000 * 257})
}

func TestLongStatements(t *testing.T) {
	s := "fn main(): int { let i: int = 0; while i < 100 { i = i" + strings.Repeat("+1-1", 4000) + "+1; } return i; }"
	wantRun(t, s, nil, source.MaxEntries, source.Result{End: api.Halt, Exit: 100, Entries: 203, Calls: 1})
}

// TestWrongTrees: programs that tree.Parse doesn't answer are run to an end, without a panic.
func TestWrongTrees(t *testing.T) {
	one := []api.Expr{{Kind: api.ENum, N: 1}}
	end := api.Stmt{Kind: api.SReturn, ID: 2, Exprs: one}
	for kind := range byte(12) {
		for n := range 4 {
			for _, id := range []int{-1, 0, 1, 2, 3, 1 << 40} {
				s := api.Stmt{Kind: kind, ID: id, Name: "a", Type: kind % 4, N: 3, Exprs: make([]api.Expr, n)}
				wantEnd(s, end)
				for ek := range byte(11) {
					for i := range s.Exprs {
						s.Exprs[i] = api.Expr{Kind: ek, Op: kind, Name: "a", Args: one}
					}
					wantEnd(s, end)
				}
			}
		}
	}
	wantEnd()
	source.Run(api.Prog{}, nil, 5)
	source.State(api.Prog{}, nil, 5)
	source.Run(api.Prog{Funcs: make([]api.Func, 3)}, nil, 5)
}

func wantEnd(body ...api.Stmt) {
	p := api.Prog{Funcs: []api.Func{{Name: "main", Result: api.TInt, Body: body}}}
	source.Run(p, nil, 50)
	source.State(p, nil, 2)
}

func TestEmptyInputs(t *testing.T) {
	s := "fn main(): int { return read(); }"
	want := source.Result{End: api.TrapIn, Entries: 1, Stmt: 1, Calls: 1}
	wantRun(t, s, nil, 9, want)
	wantRun(t, s, nums(), 9, want)
	long := make([]int64, 20000)
	for i := range long {
		long[i] = int64(i)
	}
	sum := "fn main(): int { let s: int = 0; let i: int = 0; while i < 6000 { s = s + read(); i = i + 1; } return s; }"
	wantRun(t, sum, long, source.MaxEntries, source.Result{End: api.Halt, Exit: 6000 * 5999 / 2, Entries: 18004, Calls: 1})
}
