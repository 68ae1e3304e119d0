package types_test

import (
	"reflect"
	"strings"
	"testing"

	"teasel/api"
	"teasel/tree"
	"teasel/types"
)

func mustParse(t *testing.T, s string) api.Prog {
	t.Helper()
	p, at, e := tree.Parse(s)
	if e != api.OK {
		t.Fatalf("Parse(%.200q): %d at %d", s, e, at)
	}
	return p
}

// marked answers a text without its @, and the place at which that stood; 0: there is none.
func marked(s string) (string, int) {
	return strings.Replace(s, "@", "", 1), max(0, strings.Index(s, "@"))
}

// wantText holds what Check tells of a text against an error at the place of its @.
func wantText(t *testing.T, s string, want api.Errno) {
	t.Helper()
	text, wantAt := marked(s)
	info, at, e := types.Check(mustParse(t, text))
	if at != wantAt || e != want {
		t.Errorf("Check(%.400s) = %d at %d, want %d at %d", text, e, at, want, wantAt)
	}
	if e != api.OK && (len(info.Vars) != 0 || len(info.Points) != 0) {
		t.Errorf("Check(%.400s): something is known beside an error", text)
	}
}

const others = "fn none(){} fn num(): int { return 1; } fn is(): bool { return true; } fn cells(a: arr){} fn mix(n: int, b: bool, a: arr): int { return n; } "

// wantBody is of statements in a main that returns behind them, with some other functions ahead.
func wantBody(t *testing.T, body string, want api.Errno) {
	t.Helper()
	wantText(t, others+"fn main(): int {"+body+" return 0; }", want)
}

func knownOf(t *testing.T, s string) api.Info {
	t.Helper()
	info, at, e := types.Check(mustParse(t, s))
	if e != api.OK || at != 0 {
		t.Fatalf("Check(%.400s): %d at %d", s, e, at)
	}
	return info
}

// same holds answers against each other, nil and empty lists being the same.
func same(a, b api.Info) bool {
	return reflect.DeepEqual(plain(a), plain(b))
}

func plain(info api.Info) api.Info {
	var l api.Info
	for _, v := range info.Vars {
		l.Vars = append(l.Vars, append([]api.Var{}, v...))
	}
	for _, p := range info.Points {
		l.Points = append(l.Points, api.Point{Fn: p.Fn, Seen: append([]int{}, p.Seen...), Sure: append([]int{}, p.Sure...)})
	}
	return l
}

func TestExamplesOfTheChapter(t *testing.T) {
	wantText(t, "fn main(): int { let x: int; if true { x = 1; } return @x; }", api.ErrInit)
	wantText(t, "fn main(): int { let x: int; if true { x = 1; } else { x = 2; } return x; }", api.OK)
	wantText(t, "fn main(): int { return 1; @print 2; }", api.ErrReach)
	wantText(t, "fn f() { }", api.ErrMain)
	info := knownOf(t, "fn main(): int { let x: int; if true { x = 1; } else { x = 2; } return x; }")
	if len(info.Points) != 6 || !reflect.DeepEqual(info.Points[5], api.Point{Seen: []int{0}, Sure: []int{0}}) {
		t.Errorf("the return's point is %v", info.Points)
	}
}

func TestWhatIsKnown(t *testing.T) {
	info := knownOf(t, `fn f(a: arr, n: int, b: bool): int {
	let c: arr[256];
	let x: int;
	if b { let y: bool = false; x = 1; } else { let z: int = n; while b { x = z; let w: bool; } x = 2; }
	return x;
}
fn g() { }
fn main(): int { let only: int = 3; return only; }`)
	want := api.Info{
		Vars: [][]api.Var{
			{
				{Name: "a", Type: api.TArr}, {Name: "n", Type: api.TInt}, {Name: "b", Type: api.TBool},
				{Name: "c", Type: api.TArr, N: 256, Stmt: 1}, {Name: "x", Type: api.TInt, Stmt: 2}, {Name: "y", Type: api.TBool, Stmt: 4},
				{Name: "z", Type: api.TInt, Stmt: 6}, {Name: "w", Type: api.TBool, Stmt: 9},
			},
			{},
			{{Name: "only", Type: api.TInt, Stmt: 12}},
		},
		Points: []api.Point{
			{},
			{Seen: []int{0, 1, 2}, Sure: []int{0, 1, 2}},
			{Seen: []int{0, 1, 2, 3}, Sure: []int{0, 1, 2, 3}},
			{Seen: []int{0, 1, 2, 3, 4}, Sure: []int{0, 1, 2, 3}},
			{Seen: []int{0, 1, 2, 3, 4}, Sure: []int{0, 1, 2, 3}},
			{Seen: []int{0, 1, 2, 3, 4, 5}, Sure: []int{0, 1, 2, 3, 5}},
			{Seen: []int{0, 1, 2, 3, 4}, Sure: []int{0, 1, 2, 3}},
			{Seen: []int{0, 1, 2, 3, 4, 6}, Sure: []int{0, 1, 2, 3, 6}},
			{Seen: []int{0, 1, 2, 3, 4, 6}, Sure: []int{0, 1, 2, 3, 6}},
			{Seen: []int{0, 1, 2, 3, 4, 6}, Sure: []int{0, 1, 2, 3, 4, 6}},
			{Seen: []int{0, 1, 2, 3, 4, 6}, Sure: []int{0, 1, 2, 3, 6}},
			{Seen: []int{0, 1, 2, 3, 4}, Sure: []int{0, 1, 2, 3, 4}},
			{Fn: 2},
			{Fn: 2, Seen: []int{0}, Sure: []int{0}},
		},
	}
	if !same(info, want) {
		t.Errorf("Check answers\n%+v, want\n%+v", info, want)
	}
}

func TestNothingAndNoStatements(t *testing.T) {
	if info, at, e := types.Check(api.Prog{}); at != 0 || e != api.ErrMain || len(info.Points) != 0 {
		t.Error("no functions: no main", info, at, e)
	}
	wantText(t, "fn g(a: int) { } fn main(): int { return 0; }", api.OK)
}

func TestRulesOfFunctions(t *testing.T) {
	for s, e := range map[string]api.Errno{
		"fn f(){} fn main(): int { return 0; } @fn f(a: int){}":                                                         api.ErrTwice,
		"fn main(): int { return 0; } @fn main(): int { return 0; }":                                                    api.ErrTwice,
		"fn f(a: int, b: bool, c: arr, d: int, e: int, f: int){} fn main(): int { return 0; }":                          api.OK,
		"fn f(a: int, b: bool, c: arr, d: int, e: int, f: int, @g: int){} fn main(): int { return 0; }":                 api.ErrCount,
		"fn f(a: int, b: int, c: int, d: int, e: int, f: int, @a: int, h: int){} fn main(): bool { }":                   api.ErrCount,
		"fn f(a: int, b: int, c: int, d: int, @c: int, f: int, g: int){} fn main(): bool { }":                           api.ErrTwice,
		"fn f(a: int, @a: bool){} fn f(){}":                                                                             api.ErrTwice,
		"fn f(){} @fn f(a: int, a: int){}":                                                                              api.ErrTwice,
		"fn g(a: int, b: int, c: int, d: int, e: int, f: int, @g: int){} fn g(){}":                                      api.ErrCount,
		"fn f(f: int, main: int): int { let g: int = f; return main + g; } fn g(){} fn main(): int { return f(1, 2); }": api.OK,
		"fn f(a: int){} fn g(a: bool){ let b: int = 1; } fn main(): int { let a: int = 1; let b: bool; return a; }":     api.OK,
		"fn mein(): int { return 1; }":                                                                                  api.ErrMain,
		"fn f(){ x = 1; }":                                                                                              api.ErrMain,
		"fn f(){} @fn main(a: int): int { return 0; }":                                                                  api.ErrMain,
		"fn f(){} @fn main(){}":                             api.ErrMain,
		"fn f(){} @fn main(): bool { return true; }":        api.ErrMain,
		"fn f(): int { x = 1; } @fn main(a: arr): bool { }": api.ErrMain,
		"fn f(){ x = 1; } @fn main(){} fn g(){ y = 1; }":    api.ErrMain,
		"fn main(){} fn g(){} @fn g(){}":                    api.ErrTwice,
		"fn main(a: int, @a: int){}":                        api.ErrTwice,
		"fn main(): int { return 0; } fn f(){ main(); }":    api.OK,
		"fn f(): int { return f(); } fn main(): int { return g(); } fn g(): int { return main() + f(); }": api.OK,
	} {
		wantText(t, s, e)
	}
}

func TestBlocksAreGoneThroughInOrder(t *testing.T) {
	for s, e := range map[string]api.Errno{
		"fn main(): int { @x = 1; y = 1; return 0; }":                                api.ErrName,
		"fn f(){ @x = 1; } fn main(): int { y = 1; return 0; }":                      api.ErrName,
		"@fn f(): int { } fn main(): int { y = 1; return 0; }":                       api.ErrReturn,
		"fn main(): int { if @1 { x = 1; } return 0; }":                              api.ErrType,
		"fn main(): int { if true { @x = 1; } else { y = 1; } return true; }":        api.ErrName,
		"fn main(): int { if true { } else { @y = 1; } return true; }":               api.ErrName,
		"fn main(): int { while true { @x = 1; } return true; }":                     api.ErrName,
		"fn main(): int { while @2 { x = 1; } return 0; }":                           api.ErrType,
		"fn main(): int { return @true; print 2; }":                                  api.ErrType,
		"fn main(): int { return 0; @print y; }":                                     api.ErrReach,
		"fn main(): int { if true { return 0; @y = 1; } z = 1; }":                    api.ErrReach,
		"@fn main(): int { }":                                                        api.ErrReturn,
		"fn main(): int { if true { return 1; } else { return 2; } @return 3; }":     api.ErrReach,
		"fn main(): int { if true { return 1; } else { return 2; } @x = 1; y = 1; }": api.ErrReach,
		"fn f(){ return; @return; } fn main(): int { return 0; }":                    api.ErrReach,
	} {
		wantText(t, s, e)
	}
}

func TestWhatReturns(t *testing.T) {
	const yes, no = "return 1;", "print 1;"
	for body, returns := range map[string]bool{
		"":                              false,
		no:                              false,
		yes:                             true,
		"if true {" + yes + "}":         false,
		"if true {" + yes + "} else {}": false,
		"if true {} else {" + yes + "}": false,
		"if true {" + yes + "} else {" + no + "}":                                          false,
		"if true {" + no + "} else {" + yes + "}":                                          false,
		"if true {" + yes + "} else {" + yes + "}":                                         true,
		"if true {" + no + yes + "} else {" + no + no + yes + "}":                          true,
		"if true { if true {" + yes + "} else {" + yes + "} } else {" + yes + "}":          true,
		"if true { if true {" + yes + "} } else {" + yes + "}":                             false,
		"if true { while true {" + yes + "} } else {" + yes + "}":                          false,
		"while true {" + yes + "}":                                                         false,
		"while true {}":                                                                    false,
		"while true { if true {" + yes + "} else {" + yes + "} }":                          false,
		"if true {" + yes + "}" + yes:                                                      true,
		"while true {" + yes + "}" + yes:                                                   true,
		"if true {" + yes + "} else {" + no + "} if true {" + yes + "} else {" + yes + "}": true,
	} {
		tail := "fn f(): int {" + body
		if returns {
			wantText(t, "fn main(): int {"+body+"}", api.OK)
			wantText(t, tail+"@print 1; } fn main(): int { return 0; }", api.ErrReach)
		} else {
			wantText(t, "@fn main(): int {"+body+"}", api.ErrReturn)
			wantText(t, tail+"return 3; } fn main(): int { return 0; }", api.OK)
		}
		wantText(t, "fn f() {"+strings.ReplaceAll(body, "return 1", "return")+"} fn main(): int { return 0; }", api.OK)
	}
}
