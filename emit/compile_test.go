package emit_test

import (
	"fmt"
	"reflect"
	"slices"
	"strconv"
	"strings"
	"testing"

	"teasel/api"
	"teasel/emit"
	"teasel/locs"
	"teasel/samples"
	"teasel/seen"
	"teasel/source"
	"teasel/tree"
	"teasel/types"
	"teasel/vet"
	"teasel/vm"
)

// wantFault holds the error of a text, at its @.
func wantFault(t *testing.T, s string, want api.Errno) {
	t.Helper()
	place := max(0, strings.Index(s, "@"))
	s = strings.Replace(s, "@", "", 1)
	for _, opt := range []byte{0, 1, 32, emit.All} {
		if img, at, e := emit.Compile(s, opt); e != want || at != place || !reflect.DeepEqual(img, api.Image{}) {
			t.Errorf("%d at %d, not %d at %d, of %.200q", e, at, want, place, s)
		}
	}
}

// TestTextsThatAreNoPrograms: each error of tokens and of the grammar, at its place.
func TestTextsThatAreNoPrograms(t *testing.T) {
	t.Parallel()
	for s, e := range map[string]api.Errno{
		"":                                                api.ErrText,
		"fn main(): int { return 0; } @x":                 api.ErrText,
		"fn main(): int { return 1 + @; }":                api.ErrText,
		"fn main(): int { return 0 @}":                    api.ErrText,
		"fn f( @":                                         api.ErrText,
		"fn main(): int { return @007; }":                 api.ErrText,
		"fn main(): int { return @7x; }":                  api.ErrText,
		"fn main(): int { return @$; }":                   api.ErrText,
		"fn @let(): int { return 0; }":                    api.ErrText,
		"fn main(): int { return @9223372036854775808; }": api.ErrLong,
		"fn @abcdefghijklm(): int { return 0; }":          api.ErrLong,
		"fn main(): int { return 0; } #" + strings.Repeat("x", api.MaxSource):                                     api.ErrLong,
		"fn main(): int { return " + strings.Repeat("(", 199) + "@(0" + strings.Repeat(")", 200) + "; }":          api.ErrDeep,
		"fn main(): int { return " + strings.Repeat("(", 199) + "@(0" + strings.Repeat(")", 90) + "; } $":         api.ErrText,
		"fn main(): int { return " + strings.Repeat("(", 199) + "@(x + true" + strings.Repeat(")", 200) + "; ; }": api.ErrDeep,
		"fn main(): int { " + strings.Repeat("if true {", 199) + "if true @{" + strings.Repeat("}", 201):          api.ErrDeep,
	} {
		if strings.Contains(s, "$") && !strings.Contains(s, "@$") {
			// A byte with which no token begins is told ahead of all brackets.
			s = strings.Replace(strings.Replace(s, "@", "", 1), "$", "@$", 1)
		}
		wantFault(t, s, e)
	}
}

// TestTextsThatBreakARule: each error of the types, at its place.
func TestTextsThatBreakARule(t *testing.T) {
	t.Parallel()
	for s, e := range map[string]api.Errno{
		"fn f() { } @fn f() { } fn main(): int { return 0; }":                                            api.ErrTwice,
		"fn f(a: int, @a: bool) { } fn main(): int { return 0; }":                                        api.ErrTwice,
		"fn f(a: int, b: int, c: int, d: int, e: int, f: int, @g: int) { } fn main(): int { return 0; }": api.ErrCount,
		"@fn f() { }":               api.ErrMain,
		"fn f() { } @fn main() { }": api.ErrMain,
		"fn f() { } @fn main(a: int): int { return a; }":                 api.ErrMain,
		"fn main(): int { return 1; @print 2; }":                         api.ErrReach,
		"@fn main(): int { }":                                            api.ErrReturn,
		"fn main(): int { return @true; }":                               api.ErrType,
		"fn main(): int { @return; }":                                    api.ErrType,
		"fn main(): int { let x: int = @true; return 0; }":               api.ErrType,
		"fn main(): int { let x: int; @let x: bool; return 0; }":         api.ErrTwice,
		"fn main(): int { if true { @let a: arr[3]; } return 0; }":       api.ErrForm,
		"fn main(): int { @let a: arr[0]; return 0; }":                   api.ErrArg,
		"fn main(): int { @let a: arr[257]; return 0; }":                 api.ErrArg,
		"fn main(): int { " + lets(255) + "@let y: int; return 0; }":     api.ErrLong,
		"fn main(): int { return @x; }":                                  api.ErrName,
		"fn main(): int { @x = 1; return 0; }":                           api.ErrName,
		"fn main(): int { let x: int; return @x; }":                      api.ErrInit,
		"fn f(a: int) { } fn main(): int { @f(); return 0; }":            api.ErrCount,
		"fn f(a: int) { } fn main(): int { f(@true); return 0; }":        api.ErrType,
		"fn main(): int { @g(); return 0; }":                             api.ErrName,
		"fn main(): int { let a: arr[3]; @a = 1; return 0; }":            api.ErrType,
		"fn main(): int { while @1 { } return 0; }":                      api.ErrType,
		"fn main(): int { return 1 + @(2 < 3); }":                        api.ErrType,
		"fn main(): int { let x: int = @y; let x: bool = 1; return z; }": api.ErrName,
	} {
		wantFault(t, strings.Replace(s, "@(2 < 3)", "(2 @< 3)", 1), e)
	}
}

func lets(n int) string {
	var s strings.Builder
	for i := range n {
		fmt.Fprintf(&s, "let v%d: int; ", i)
	}
	return s.String()
}

// TestFaultsOfTextsByChance: those of tree and types, whatever opt is.
func TestFaultsOfTextsByChance(t *testing.T) {
	t.Parallel()
	wrong := 0
	for seed := range uint64(3000) {
		s := samples.Text(seed, int(seed%4))
		if seed%3 == 0 && len(s) > 0 {
			at := int(seed*31) % len(s)
			s = s[:at] + []string{"$", "(", ")", "x", "0", " "}[seed%6] + s[at:]
		}
		p, at, e := tree.Parse(s)
		if e == api.OK {
			_, at, e = types.Check(p)
		}
		img, place, got := emit.Compile(s, byte(seed)%64)
		if got != e || place != at {
			t.Fatalf("%d at %d, not %d at %d, of\n%s", got, place, e, at, s)
		}
		if e != api.OK {
			wrong++
			if !reflect.DeepEqual(img, api.Image{}) {
				t.Fatal("an image beside an error, of", s)
			}
		} else if at, e := vet.Check(img); e != api.OK {
			t.Fatalf("the image isn't sound at %d by %d, of\n%s", at, e, s)
		}
	}
	if wrong < 500 || wrong > 2500 {
		t.Error(wrong)
	}
}

// TestCompileIsAllSteps: of its program's code what the passes make, with all, if there are none.
func TestCompileIsAllSteps(t *testing.T) {
	t.Parallel()
	for seed := range uint64(200) {
		s := samples.Text(seed, 0)
		c := program(t, s)
		for _, opt := range []byte{0, 1, 2, 4, 8, 16, 32, byte(seed) % 64, emit.All} {
			want := mustImage(t, mustPass(t, c, opt), opt == 0)
			img, at, e := emit.Compile(s, opt)
			if e != api.OK || at != 0 || !reflect.DeepEqual(img, want) {
				t.Fatal(opt, at, e, s)
			}
			if again, _, _ := emit.Compile(s, opt); !reflect.DeepEqual(again, img) {
				t.Fatal("two images of one text", s)
			}
		}
	}
}

func TestTheChaptersExample(t *testing.T) {
	img, at, e := emit.Compile("fn main(): int { print 1 + 2; return 0; }", emit.All)
	if at != 0 || e != api.OK {
		t.Fatal(at, e)
	}
	s := runImage(t, img, nil)
	if s.End != api.Halt || s.Exit != 0 || !slices.Equal(s.Outs, nums(3)) || s.Marks != 2 {
		t.Error(s)
	}
}

// twin is a program's run by source, and by a machine.
type twin struct {
	text  string
	opt   byte
	p     api.Prog
	info  api.Info
	img   api.Image
	debug api.Debug
}

func newTwin(t *testing.T, s string, opt byte) twin {
	t.Helper()
	p, _, e := tree.Parse(s)
	if e != api.OK {
		t.Fatal(e, s)
	}
	info, _, _ := types.Check(p)
	img, at, e := emit.Compile(s, opt)
	if e != api.OK || at != 0 {
		t.Fatal(at, e, s)
	}
	if at, e := vet.Check(img); e != api.OK {
		t.Fatal(at, e, s)
	}
	d, _ := locs.Decode(img.Debug)
	return twin{s, opt, p, info, img, d}
}

// hold holds a run of at most so many entries: what is seen at each, and the end.
func (w twin) hold(t *testing.T, input []int64, entries int) byte {
	t.Helper()
	want, e := source.Run(w.p, input, entries)
	if e != api.OK {
		t.Fatal(e, w.text)
	}
	if want.Calls > api.MaxCalls || want.Cells > api.MaxHeap {
		return 0
	}
	m, _ := vm.New(w.img, input)
	for k := 1; k <= want.Entries; k++ {
		if !m.ToMark(200000) {
			t.Fatalf("with %d: the entry %d isn't come to, but %d, with %v, of\n%s", w.opt, k, m.Status().End, input, w.text)
		}
		// Of a long run its beginning and its end tell enough.
		if k > 40 && k < want.Entries-3 {
			continue
		}
		if s := w.state(m, input, k); s != "" {
			t.Fatalf("with %d: %s at the entry %d, with %v, of\n%s", w.opt, s, k, input, w.text)
		}
	}
	if want.End == api.StopFuel {
		return want.End
	}
	m.Run(200000)
	got := m.Status()
	if got.End != want.End || got.Exit != want.Exit || !slices.Equal(got.Outs, want.Outs) || got.Marks != want.Entries {
		t.Fatalf("with %d: %+v, not %+v, with %v, of\n%s", w.opt, got, want, input, w.text)
	}
	if want.End != api.Halt {
		mark, is := seen.Site(w.debug, got.At)
		if !is || seen.Spots(w.debug, mark)[0].Stmt != want.Stmt {
			t.Fatalf("with %d: a trap elsewhere than at %d, with %v, of\n%s", w.opt, want.Stmt, input, w.text)
		}
	}
	return want.End
}

// state tells how what is seen isn't what the source has at an entry.
func (w twin) state(m *vm.Machine, input []int64, k int) string {
	want, outs, _ := source.State(w.p, input, k)
	got := seen.Frames(w.img, w.debug, m.Calls())
	if len(m.Status().Outs) != outs || len(got) != len(want) {
		return "other prints, or other calls"
	}
	heap := m.Heap()
	for i, f := range want {
		if got[i].Fn != f.Fn || got[i].Stmt != f.Stmt {
			return "the frame " + strconv.Itoa(i)
		}
		if w.opt == 0 && len(got[i].Vars) != len(f.Vars) {
			return strconv.Itoa(len(got[i].Vars)) + " variables of " + strconv.Itoa(len(f.Vars))
		}
		for _, x := range got[i].Vars {
			at := slices.IndexFunc(f.Vars, func(y api.Shown) bool { return y.Var == x.Var })
			if at == -1 || !x.Has {
				return "the variable " + strconv.Itoa(x.Var) + " that isn't sure"
			}
			y := f.Vars[at]
			if w.info.Vars[f.Fn][x.Var].Type == api.TArr {
				if x.N < 1 || heap[x.N-1] != int64(len(y.List)) || !slices.Equal(heap[x.N:x.N+int64(len(y.List))], y.List) {
					return "other cells of the variable " + strconv.Itoa(x.Var)
				}
			} else if x.N != y.N {
				return "the variable " + strconv.Itoa(x.Var) + " as " + strconv.FormatInt(x.N, 10)
			}
		}
	}
	return ""
}

// TestProgramsOfAllKinds: with each set of passes, to each end.
func TestProgramsOfAllKinds(t *testing.T) {
	t.Parallel()
	for s, end := range map[string]byte{
		"fn main(): int { return 7; }": api.Halt,
		"fn f() { } fn g(a: arr) { a[1] = a[0] + 1; } fn main(): int { let a: arr[2]; f(); a[0] = read(); g(a); f(); return a[1]; }":                                                                       api.Halt,
		"fn f(n: int): int { if n < 1 { return 0; } return f(n - 1) + n; } fn main(): int { print f(97); return f(read()); }":                                                                              api.Halt,
		"fn f(n: int) { let a: arr[200]; a[n] = n; if n > 0 { f(n - 1); } } fn main(): int { f(15); f(15); return 0; }":                                                                                    api.Halt,
		"fn even(n: int): bool { return n == 0 || odd(n - 1); } fn odd(n: int): bool { return n != 0 && even(n - 1); } fn main(): int { print even(20); print odd(20); return 0; }":                        api.Halt,
		"fn main(): int { let s: int = 0; let i: int = 0; while i < 20 { let t: int = i * 12; s = s + t; if i % 3 == 0 { print s; } i = i + 2; } return s; }":                                              api.Halt,
		"fn main(): int { let i: int = 0; while true { print 12 / (3 - i); i = i + 1; } return 0; }":                                                                                                       api.TrapZero,
		"fn f(x: int): int { return 5 % x; } fn main(): int { let i: int = 3; while i >= 0 { print f(i); i = i - 1; } return 0; }":                                                                         api.TrapZero,
		"fn f(a: arr, n: int): int { return a[n]; } fn main(): int { let a: arr[4]; let n: int = 0; while n < 9 { print f(a, n); n = n + 1; } return 0; }":                                                 api.TrapCell,
		"fn main(): int { let a: arr[4]; a[4] = 1; return 0; }":                                                                                                                                            api.TrapCell,
		"fn f(): int { return read(); } fn main(): int { while f() != 99 { } return 0; }":                                                                                                                  api.TrapIn,
		"fn main(): int { let i: int = 0; while i >= 0 { i = i + 1; } return i; }":                                                                                                                         api.StopFuel,
		"fn main(): int { let i: int = 0; while true { i = i + 1; if i > 5 { return i; } else { print i; } } return 0; }":                                                                                  api.Halt,
		"fn main(): int { let b: bool = read() < 5; let c: bool = !b && read() > 2 || b; print b; print c; print b == c; if b != c { print 1; } else { print 2; } return -5 >> 1 ^ ~3 | 6 & -(1 << 63); }": api.Halt,
	} {
		for opt := range byte(64) {
			if got := newTwin(t, s, opt).hold(t, nums(3, 4, 5), 3000); got != end {
				t.Errorf("%d, not %d, with %d, of %s", got, end, opt, s)
			}
		}
	}
}

// TestProgramsByChance: with each set of passes.
func TestProgramsByChance(t *testing.T) {
	t.Parallel()
	had := map[byte]int{}
	for seed := range uint64(400) {
		s := samples.Text(seed, 0)
		for _, opt := range []byte{0, byte(seed) % 64, byte(seed*5+17) % 64, emit.All} {
			had[newTwin(t, s, opt).hold(t, nums(3, -1, 0, int64(seed), 7, 1, 2, 5)[:seed%9], 2000)]++
		}
	}
	if had[api.Halt] < 1000 || had[api.TrapZero] < 5 || had[api.TrapCell] < 2 || had[api.TrapIn] < 50 {
		t.Error(had)
	}
}

// TestMachinesStopWhereSourcesHaveTooMuch: for want of calls, or of cells, and only there.
func TestMachinesStopWhereSourcesHaveTooMuch(t *testing.T) {
	t.Parallel()
	for _, x := range []struct {
		text  string
		least int64 // the first number with which it stops
		want  byte
	}{
		{"fn f(n: int): int { if n < 2 { return 1; } return f(n - 1) + 1; } fn main(): int { return f(read()); }", 100, api.StopCall},
		{"fn f(n: int) { if n > 1 { f(n - 1); } } fn main(): int { f(read()); return 0; }", 100, api.StopCall},
		{"fn f(n: int) { let a: arr[63]; if n > 1 { f(n - 1); } } fn main(): int { f(read()); return 0; }", 65, api.StopHeap},
		{"fn f() { let a: arr[256]; } fn g(n: int) { while n > 0 { f(); n = n - 1; } } fn main(): int { let a: arr[256]; g(read()); return 0; }", 1 << 40, api.StopHeap},
	} {
		for opt := range byte(64) {
			w := newTwin(t, x.text, opt)
			for _, n := range []int64{1, 50, x.least - 1, x.least, x.least + 7} {
				if n > 1<<30 {
					continue
				}
				r, _ := source.Run(w.p, nums(n), source.MaxEntries)
				s := runImage(t, w.img, nums(n))
				tooMuch := r.Calls > api.MaxCalls || r.Cells > api.MaxHeap
				if tooMuch != (n >= x.least) || tooMuch && s.End != x.want || !tooMuch && (s.End != r.End || s.Exit != r.Exit) {
					t.Errorf("with %d: %d, and %+v of the source, of %s", opt, s.End, r, x.text)
				}
			}
		}
	}
}
