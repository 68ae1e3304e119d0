package lower_test

import (
	"math"
	"reflect"
	"strings"
	"testing"

	"teasel/api"
	"teasel/code"
	"teasel/lower"
	"teasel/samples"
	"teasel/tree"
	"teasel/types"
)

func wantError(t *testing.T, p api.Prog) api.Errno {
	t.Helper()
	_, place, want := types.Check(p)
	c, at, e := lower.Program(p)
	if want == api.OK || at != place || e != want || !reflect.DeepEqual(c, api.Code{}) {
		t.Errorf("Program answers %d at %d, want %d at %d, of\n%s", e, at, want, place, tree.Show(p))
	}
	return want
}

// TestErrors: those of types, at its places, and nothing else beside them.
func TestErrors(t *testing.T) {
	for _, s := range []string{
		"fn f() { }", "fn main() { }", "fn main(): int { }", "fn main(): int { return 1; print 2; }", "fn main(): int { let x: int; if true { x = 1; } return x; }",
		"fn main(): int { return true; }", "fn main(): int { return y; }", "fn main(): int { return f(1); } fn f(): int { return 1; }", "fn main(): int { let a: arr[257]; return 1; }",
		"fn main(): int { if true { let a: arr[2]; } return 1; }", "fn f(a: int, a: int) { } fn main(): int { return 1; }",
	} {
		wantError(t, mustParse(t, s))
	}
	had := map[api.Errno]bool{}
	for seed := range uint64(3000) {
		p := mustParse(t, samples.Text(seed, 12))
		if _, _, e := types.Check(p); e == api.OK {
			mustLower(t, p)
		} else {
			had[wantError(t, p)] = true
		}
	}
	if len(had) < 9 {
		t.Error("of too few errors:", had)
	}
}

// statements answers the numbers of all statements of a function.
func statements(l []api.Stmt) []int {
	var ids []int
	for _, s := range l {
		ids = append(ids, s.ID)
		ids = append(append(ids, statements(s.Body)...), statements(s.Else)...)
	}
	return ids
}

// wantFaces holds what the chapter says of the code, whatever code it is.
func wantFaces(t *testing.T, p api.Prog) {
	t.Helper()
	c := mustLower(t, p)
	if len(c.Funs) != len(p.Funcs) || p.Funcs[c.Main].Name != "main" {
		t.Fatal("not the program's functions", len(c.Funs), c.Main)
	}
	stops := [][]api.Spot{}
	for fn, f := range p.Funcs {
		if c.Funs[fn].Params != len(f.Params) {
			t.Fatal("not the function's parameters", fn)
		}
		for _, id := range statements(f.Body) {
			stops = append(stops, []api.Spot{{Fn: fn, Stmt: id}})
		}
		for _, b := range c.Funs[fn].Blocks {
			for _, x := range b.Insts {
				if x.Op == api.IMark && c.Stops[x.Site][0].Fn != fn {
					t.Fatal("a mark of another function", fn)
				}
			}
		}
	}
	if !reflect.DeepEqual(append([][]api.Spot{}, c.Stops...), stops) {
		t.Fatalf("the stops are %v, want %v, of\n%s", c.Stops, stops, tree.Show(p))
	}
}

func TestFunctionsAndStops(t *testing.T) {
	wantFaces(t, mustParse(t, "fn main(): int { return 1; }"))
	wantFaces(t, mustParse(t, "fn none() { } fn f(a: int, b: bool, c: arr, d: int, e: int, f: int): bool { while a > 0 { if b { return true; } else { a = 1; } } return false; } fn main(): int { return 1; } fn g() { print 1; }"))
	for seed := range uint64(1000) {
		wantFaces(t, mustParse(t, samples.Text(seed, 0)))
	}
}

// moved answers a text with blanks and remarks between its tokens.
func moved(s string) string {
	return "\n# a remark\n  " + strings.NewReplacer(";", " ;\t# x\r\n", "(", "( ", ")", " ) ", "{", "\n{ # { \n").Replace(s) + " # end"
}

// TestPlacesCountForNothing: code is the same for programs that differ in their places alone.
func TestPlacesCountForNothing(t *testing.T) {
	for seed := range uint64(500) {
		s := samples.Text(seed, 0)
		p, q := mustParse(t, s), mustParse(t, moved(s))
		r := mustParse(t, tree.Show(p)) // without brackets that needn't be
		if reflect.DeepEqual(p, q) {
			t.Fatal("the places are the same")
		}
		c := mustLower(t, p)
		if !reflect.DeepEqual(c, mustLower(t, q)) || !reflect.DeepEqual(c, mustLower(t, r)) {
			t.Fatalf("the code hangs on places, of\n%s", s)
		}
	}
}

func TestTheSameAnswerEachTime(t *testing.T) {
	for seed := range uint64(300) {
		p := mustParse(t, samples.Text(seed, 0))
		c := mustLower(t, p)
		lower.Program(mustParse(t, samples.Text(seed+1, int(seed%9))))
		if !reflect.DeepEqual(c, mustLower(t, p)) {
			t.Fatal("two answers to one program", seed)
		}
	}
}

// dense are texts in which many instructions come of few bytes.
func dense(n int) []string {
	fill := func(ahead, part, behind string) string {
		return ahead + strings.Repeat(part, (n-len(ahead)-len(behind))/len(part)) + behind
	}
	return []string{
		fill("fn main():int{return ", "-", "1;}"), fill("fn main():int{return 1", "+1", ";}"), fill("fn main():int{let a:arr[1];a[0]=a[0]", "+a[0]", ";return 1;}"),
		fill("fn main():int{print true", "&&true", ";return 1;}"), fill("fn main():int{let x:bool=true;print x", "||x", ";return 1;}"), fill("fn main():int{let x:bool=true;print ", "!", "x;return 1;}"),
		fill("fn f(){}fn main():int{", "f();", "return 1;}"), fill("fn main():int{let x:int=0;", "x=x;", "return 1;}"), fill("fn f(a:int):int{return a;}fn main():int{return f(1)", "+f(1)", ";}"),
		fill("fn main():int{let x:bool=true;", "if x{}", "return 1;}"), fill("fn main():int{let x:bool=true;", "while x{}", "return 1;}"), fill("fn main():int{let x:bool=true;", "if x{}else{x=x;}", "return 1;}"),
		fill("fn f(a:int,b:int,c:int,d:int,e:int,g:int){}fn main():int{", "f(1,1,1,1,1,1);", "return 1;}"), fill("fn main():int{let a:arr[1];", "a[0]=a[0];", "return 1;}"),
	}
}

// TestLongTexts: of at most 6,000 bytes none is too long, nor is one that has as many as may be.
func TestLongTexts(t *testing.T) {
	for _, n := range []int{6000, api.MaxSource} {
		for _, s := range dense(n) {
			c := mustLower(t, mustParse(t, s))
			if size := code.Size(c); size > 2*n {
				t.Errorf("%.60s has %d instructions and phis", s, size)
			}
		}
	}
}

// TestBracketsDeepInOneAnother: statements and expressions as deep as may be.
func TestBracketsDeepInOneAnother(t *testing.T) {
	const deep = 190
	for _, s := range []string{
		"fn main(): int { " + strings.Repeat("while true { ", deep) + strings.Repeat("}", deep) + " return 0; }",
		"fn main(): int { " + strings.Repeat("if false { } else { ", deep) + "print 4; " + strings.Repeat("}", deep) + " return 0; }",
		"fn main(): int { let a: arr[1]; return " + strings.Repeat("a[", deep) + "0" + strings.Repeat("]", deep) + "; }",
		"fn f(b: bool): bool { return b; } fn main(): int { print " + strings.Repeat("f(true && ", deep) + "false" + strings.Repeat(")", deep) + "; return 0; }",
		"fn main(): int { print " + strings.Repeat("(false || ", deep) + "true" + strings.Repeat(")", deep) + "; return 0; }",
	} {
		hold(t, s, nil, 200)
	}
}

// tooLong is a program that no text makes, as its cells stand too deep in one another; it has so many lets of arrays beside the first one.
func tooLong(lets int) api.Prog {
	e := api.Expr{Kind: api.ELen, Name: "a"}
	for range api.MaxSource - 4 - lets {
		e = api.Expr{Kind: api.EElem, Name: "a", Args: []api.Expr{e}}
	}
	f := api.Func{Name: "main", Result: api.TInt}
	for i := range lets + 1 {
		f.Body = append(f.Body, api.Stmt{Kind: api.SLet, ID: i + 1, Name: strings.Repeat("a", i+1), Type: api.TArr, N: 1})
	}
	f.Body = append(f.Body, api.Stmt{Kind: api.SReturn, ID: lets + 2, Exprs: []api.Expr{e}})
	return api.Prog{Funcs: []api.Func{f}}
}

func TestCodeThatIsTooLong(t *testing.T) {
	if c, at, e := lower.Program(tooLong(0)); e != api.OK || at != 0 || code.Size(c) != api.MaxCode || code.Check(c) != api.OK {
		t.Error("code that is as long as may be", e, code.Size(c))
	}
	if c, at, e := lower.Program(tooLong(1)); e != api.ErrLimit || at != 0 || !reflect.DeepEqual(c, api.Code{}) {
		t.Error("code that is longer than may be", e, code.Size(c))
	}
}

// TestWrongTrees: programs that tree.Parse doesn't answer have an answer, without a panic.
func TestWrongTrees(t *testing.T) {
	one := []api.Expr{{Kind: api.ENum, N: math.MinInt64}}
	answer := api.Stmt{Kind: api.SReturn, ID: 2, Exprs: one}
	try := func(body ...api.Stmt) {
		p := api.Prog{Funcs: []api.Func{{Name: "main", Result: api.TInt, Body: body}}}
		if c, _, e := lower.Program(p); e == api.OK && code.Check(c) != api.OK {
			t.Errorf("the code of %+v isn't right", p)
		}
	}
	for kind := range byte(12) {
		for n := range 4 {
			for _, id := range []int{-1, 0, 1, 2, 3, 1 << 40} {
				s := api.Stmt{Kind: kind, ID: id, Name: "a", Type: kind % 4, N: 3, Exprs: make([]api.Expr, n)}
				try(s, answer)
				for ek := range byte(11) {
					for i := range s.Exprs {
						s.Exprs[i] = api.Expr{Kind: ek, Op: kind, Name: "a", N: 5, Args: one}
					}
					try(s, answer)
				}
			}
		}
	}
	try()
	lower.Program(api.Prog{})
	lower.Program(api.Prog{Funcs: make([]api.Func, 3)})
}

const telling = "fn f(a: arr, n: int): int { let x: int; a[n] = read(); if n > 0 && x0(n) { x = f(a, n - 1) + a[n]; } else { x = -a[0]; } return x; } fn x0(n: int): bool { return n != 9; } fn main(): int { let a: arr[3]; let i: int = 0; while i < 2 { print f(a, i); i = i + 1; } return len(a); }"

func TestWhatIsHandedInIsNotKept(t *testing.T) {
	p := mustParse(t, telling)
	c := mustLower(t, p)
	want := code.Copy(c)
	if before := mustParse(t, telling); !reflect.DeepEqual(p, before) {
		t.Error("the program was changed")
	}
	for _, f := range p.Funcs {
		for _, s := range f.Body {
			clear(s.Exprs)
			clear(s.Body)
		}
		clear(f.Body)
	}
	clear(p.Funcs)
	if !reflect.DeepEqual(c, want) {
		t.Error("the code hangs together with the program")
	}
}
