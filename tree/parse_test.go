package tree

import (
	"reflect"
	"strings"
	"testing"

	"teasel/api"
)

func mustParse(t *testing.T, s string) api.Prog {
	t.Helper()
	p, at, e := Parse(s)
	if e != api.OK || at != 0 {
		t.Fatalf("Parse(%.80q): %d at %d", s, e, at)
	}
	return p
}

func wantFault(t *testing.T, s string, at int, e api.Errno) {
	t.Helper()
	p, gotAt, got := Parse(s)
	if gotAt != at || got != e || len(p.Funcs) != 0 {
		t.Errorf("Parse(%.80q) = %v %d %d, want the place %d, error %d", s, p, gotAt, got, at, e)
	}
}

// wantBody holds the statements of a function whose beginning takes 7 bytes against those that it must have.
func wantBody(t *testing.T, s string, want ...api.Stmt) {
	t.Helper()
	p := mustParse(t, "fn f(){"+s+"}")
	if len(p.Funcs) != 1 || !reflect.DeepEqual(p.Funcs[0].Body, want) {
		t.Errorf("Parse(%q) has\n%+v, want\n%+v", s, p.Funcs, want)
	}
}

// wantExpr holds the expression of return, which takes 7 bytes more, against the one that it must be.
func wantExpr(t *testing.T, s string, want api.Expr) {
	t.Helper()
	wantBody(t, "return "+s+";", api.Stmt{Kind: api.SReturn, ID: 1, At: 7, Exprs: list(want)})
}

func list(l ...api.Expr) []api.Expr {
	return l
}

func num(at int, n int64) api.Expr {
	return api.Expr{Kind: api.ENum, N: n, At: at}
}

func variable(at int, name string) api.Expr {
	return api.Expr{Kind: api.EVar, Name: name, At: at}
}

func two(at int, op byte, a, b api.Expr) api.Expr {
	return api.Expr{Kind: api.EBin, Op: op, At: at, Args: list(a, b)}
}

func one(at int, op byte, a api.Expr) api.Expr {
	return api.Expr{Kind: api.EUn, Op: op, At: at, Args: list(a)}
}

func TestFunctions(t *testing.T) {
	p := mustParse(t, " fn f(a:int,b : bool, c:arr){}fn g():int{}\nfn h(x: arr): bool { return; }")
	want := []api.Func{
		{Name: "f", At: 1, Params: []api.Param{{Name: "a", Type: api.TInt, At: 6}, {Name: "b", Type: api.TBool, At: 12}, {Name: "c", Type: api.TArr, At: 22}}},
		{Name: "g", At: 30, Result: api.TInt},
		{Name: "h", At: 43, Result: api.TBool, Params: []api.Param{{Name: "x", Type: api.TArr, At: 48}}, Body: []api.Stmt{{Kind: api.SReturn, ID: 1, At: 64}}},
	}
	if !reflect.DeepEqual(p.Funcs, want) {
		t.Errorf("%+v, want\n%+v", p.Funcs, want)
	}
	many := mustParse(t, "fn f(a:int,a:int,a:int,a:int,a:int,a:int,a:int,a:int){}fn f(){}")
	if len(many.Funcs) != 2 || len(many.Funcs[0].Params) != 8 {
		t.Error("what types judge isn't judged here", many)
	}
}

func TestStatements(t *testing.T) {
	wantBody(t, "let a:int;let b:bool=c;let d:arr[12];",
		api.Stmt{Kind: api.SLet, ID: 1, At: 7, Name: "a", Type: api.TInt},
		api.Stmt{Kind: api.SLet, ID: 2, At: 17, Name: "b", Type: api.TBool, Exprs: list(variable(28, "c"))},
		api.Stmt{Kind: api.SLet, ID: 3, At: 30, Name: "d", Type: api.TArr, N: 12})
	wantBody(t, "let a:int=1;let d:arr[0];",
		api.Stmt{Kind: api.SLet, ID: 1, At: 7, Name: "a", Type: api.TInt, Exprs: list(num(17, 1))},
		api.Stmt{Kind: api.SLet, ID: 2, At: 19, Name: "d", Type: api.TArr})
	wantBody(t, "a=1;b[2]=3;f();f(a);f(a,1);",
		api.Stmt{Kind: api.SSet, ID: 1, At: 7, Name: "a", Exprs: list(num(9, 1))},
		api.Stmt{Kind: api.SPut, ID: 2, At: 11, Name: "b", Exprs: list(num(13, 2), num(16, 3))},
		api.Stmt{Kind: api.SCall, ID: 3, At: 18, Exprs: list(api.Expr{Kind: api.ECall, Name: "f", At: 18})},
		api.Stmt{Kind: api.SCall, ID: 4, At: 22, Exprs: list(api.Expr{Kind: api.ECall, Name: "f", At: 22, Args: list(variable(24, "a"))})},
		api.Stmt{Kind: api.SCall, ID: 5, At: 27, Exprs: list(api.Expr{Kind: api.ECall, Name: "f", At: 27, Args: list(variable(29, "a"), num(31, 1))})})
	wantBody(t, "return;return 1;print 2;",
		api.Stmt{Kind: api.SReturn, ID: 1, At: 7},
		api.Stmt{Kind: api.SReturn, ID: 2, At: 14, Exprs: list(num(21, 1))},
		api.Stmt{Kind: api.SPrint, ID: 3, At: 23, Exprs: list(num(29, 2))})
}

func TestBlocksAndNumbersOfStatements(t *testing.T) {
	wantBody(t, "if a{b=1;while c{print 2;}}else{return;}if d{}else{}while e{}",
		api.Stmt{Kind: api.SIf, ID: 1, At: 7, Exprs: list(variable(10, "a")),
			Body: []api.Stmt{
				{Kind: api.SSet, ID: 2, At: 12, Name: "b", Exprs: list(num(14, 1))},
				{Kind: api.SWhile, ID: 3, At: 16, Exprs: list(variable(22, "c")), Body: []api.Stmt{{Kind: api.SPrint, ID: 4, At: 24, Exprs: list(num(30, 2))}}},
			},
			Else: []api.Stmt{{Kind: api.SReturn, ID: 5, At: 39}}},
		api.Stmt{Kind: api.SIf, ID: 6, At: 47, Exprs: list(variable(50, "d"))},
		api.Stmt{Kind: api.SWhile, ID: 7, At: 59, Exprs: list(variable(65, "e"))})
	p := mustParse(t, "fn f(){a=1;}fn g(){a=1;if b{c=1;}}")
	if g := p.Funcs[1].Body; p.Funcs[0].Body[0].ID != 1 || g[0].ID != 2 || g[1].ID != 3 || g[1].Body[0].ID != 4 {
		t.Error("statements are numbered through the whole text", p)
	}
}

func TestExpressions(t *testing.T) {
	wantExpr(t, "0", num(14, 0))
	wantExpr(t, "9223372036854775807", num(14, 9223372036854775807))
	wantExpr(t, "true", api.Expr{Kind: api.EBool, N: 1, At: 14})
	wantExpr(t, "false", api.Expr{Kind: api.EBool, At: 14})
	wantExpr(t, "x", variable(14, "x"))
	wantExpr(t, "read ( )", api.Expr{Kind: api.ERead, At: 14})
	wantExpr(t, "len ( x )", api.Expr{Kind: api.ELen, Name: "x", At: 14})
	wantExpr(t, "x [ 1 ]", api.Expr{Kind: api.EElem, Name: "x", At: 14, Args: list(num(18, 1))})
	wantExpr(t, "f()", api.Expr{Kind: api.ECall, Name: "f", At: 14})
	wantExpr(t, "f(1,g(x))", api.Expr{Kind: api.ECall, Name: "f", At: 14, Args: list(num(16, 1), api.Expr{Kind: api.ECall, Name: "g", At: 18, Args: list(variable(20, "x"))})})
	wantExpr(t, "-1", one(14, api.Neg, num(15, 1)))
	wantExpr(t, "~!-x", one(14, api.Not, one(15, api.Bang, one(16, api.Neg, variable(17, "x")))))
}

func TestBracketsLeaveNoTrace(t *testing.T) {
	wantExpr(t, "(x)", variable(15, "x"))
	wantExpr(t, "((1))", num(16, 1))
	wantExpr(t, "(1+2)", two(16, api.Add, num(15, 1), num(17, 2)))
	wantExpr(t, "-(-x)", one(14, api.Neg, one(16, api.Neg, variable(17, "x"))))
	wantExpr(t, "(1+2)*3", two(19, api.Mul, two(16, api.Add, num(15, 1), num(17, 2)), num(20, 3)))
}

func TestHowSignsBind(t *testing.T) {
	wantExpr(t, "1+2*3", two(15, api.Add, num(14, 1), two(17, api.Mul, num(16, 2), num(18, 3))))
	wantExpr(t, "1*2+3", two(17, api.Add, two(15, api.Mul, num(14, 1), num(16, 2)), num(18, 3)))
	wantExpr(t, "1-2-3", two(17, api.Sub, two(15, api.Sub, num(14, 1), num(16, 2)), num(18, 3)))
	wantExpr(t, "1-(2-3)", two(15, api.Sub, num(14, 1), two(18, api.Sub, num(17, 2), num(19, 3))))
	wantExpr(t, "-1+2", two(16, api.Add, one(14, api.Neg, num(15, 1)), num(17, 2)))
	wantExpr(t, "1--2", two(15, api.Sub, num(14, 1), one(16, api.Neg, num(17, 2))))
	wantExpr(t, "1<2<3", two(17, api.Lt, two(15, api.Lt, num(14, 1), num(16, 2)), num(18, 3)))
	// The chapter's example says 25, where a blank stands; its rule says the sign's place.
	p := mustParse(t, "fn main(): int { return 1 + 2 * 3; }")
	if s := p.Funcs[0].Body; len(s) != 1 || s[0].Exprs[0].Op != api.Add || s[0].Exprs[0].At != 26 {
		t.Error("the sum's place is its sign's", s)
	}
}

// TestStrengths: every pair of signs, held against the order of the grammar.
func TestStrengths(t *testing.T) {
	levels := strings.Split("||;&&;== !=;< <= > >=;|;^;&;<< >>;+ -;* / %", ";")
	for i, l1 := range levels {
		for j, l2 := range levels {
			for _, a := range strings.Fields(l1) {
				for _, b := range strings.Fields(l2) {
					p := mustParse(t, "fn f(){x=1 "+a+" 2 "+b+" 3;}")
					e := p.Funcs[0].Body[0].Exprs[0]
					top, inner := b, 0
					if i < j {
						top, inner = a, 1
					}
					if s, _ := Signs(e.Op); s != top || e.Args[inner].Kind != api.EBin {
						t.Errorf("1 %s 2 %s 3: %+v", a, b, e)
					}
				}
			}
		}
	}
}

func TestWrongTokens(t *testing.T) {
	wantFault(t, "", 0, api.ErrText)
	wantFault(t, "# nothing", 9, api.ErrText)
	wantFault(t, "fn f( ", 6, api.ErrText)
	wantFault(t, "fn f() { return 1 +; }", 19, api.ErrText)
	wantFault(t, "fn f() {} x", 10, api.ErrText)
	wantFault(t, "fn f() {} }", 10, api.ErrText)
	wantFault(t, "fn f() {} fn", 12, api.ErrText)
	wantFault(t, "fn f() {", 8, api.ErrText)
	wantFault(t, "fn if() {}", 3, api.ErrText)
	wantFault(t, "fn 1() {}", 3, api.ErrText)
	wantFault(t, "fn f(,) {}", 5, api.ErrText)
	wantFault(t, "fn f(a) {}", 6, api.ErrText)
	wantFault(t, "fn f(a:int,) {}", 11, api.ErrText)
	wantFault(t, "fn f(a:int b:int) {}", 11, api.ErrText)
	wantFault(t, "fn f(a:x) {}", 7, api.ErrText)
	wantFault(t, "fn f(int:int) {}", 5, api.ErrText)
	wantFault(t, "fn f(a:arr[3]) {}", 10, api.ErrText)
	wantFault(t, "fn f(): arr {}", 8, api.ErrText)
	wantFault(t, "fn f(): {}", 8, api.ErrText)
	wantFault(t, "fn f();", 6, api.ErrText)
}

func TestWrongTokensOfStatements(t *testing.T) {
	for s, at := range map[string]int{
		"let :": 4, "let let": 4, "let x;": 5, "let x:x": 6, "let x: arr;": 10, "let x: arr = y;": 11,
		"let x: arr[]": 11, "let x: arr[n]": 11, "let x: arr[-1]": 11, "let x: arr[1+1]": 12, "let x: arr[1] = y": 14,
		"let x: int[3]": 10, "let x: int = ;": 13, "let x: int 5": 11, "let x: bool == y": 12,
		"x;": 1, "x x": 2, "x == 1": 2, "x = ;": 4, "x = 1 }": 6, "x = y = 1": 6, "x[1];": 4, "x[1] == 2": 5, "x[] = 1": 2, "x[1,2] = 1": 3, "x[1": 3, "x[1)": 3,
		"f(": 2, "f(,": 2, "f(1,)": 4, "f(1 2)": 4, "f() = 1": 4, "f()()": 3, "f() }": 4, "(f)();": 0, "1;": 0, ";": 0, "read();": 0, "len(x);": 0, "else {}": 0, "true = x": 0, "fn g() {}": 0,
		"if {": 3, "if a;": 4, "if a print 1;": 5, "if a {} else if b {}": 13, "if a {} else;": 12, "if a {} {": 8, "if (a) b": 7,
		"while {": 6, "while a;": 7, "while a {} else {}": 11, "{": 0,
		"return": 6, "return }": 7, "return 1": 8, "return 1,": 8, "print;": 5, "print": 5, "print 1,": 7,
	} {
		wantFault(t, "fn f() { "+s, 9+at, api.ErrText)
	}
}

func TestWrongTokensOfExpressions(t *testing.T) {
	for s, at := range map[string]int{
		"+1;": 0, "*": 0, "1+": 2, "1+*2": 2, "1!2": 1, "1~2": 1, "1 != = 2": 5, "1 2": 2, "1 x": 2, "x y": 2, "1(2)": 1, "1[2]": 1,
		"(": 1, "()": 1, "(1;": 2, "(1]": 2, "(1,2)": 2, ")": 0, "1)": 1, "1]": 1, "-": 1, "--;": 2,
		"read;": 4, "read(1)": 5, "read(": 5, "len": 3, "len()": 4, "len(1)": 4, "len((x))": 4, "len(x y)": 6, "len(x[1])": 5, "len(x;": 5,
		"true(": 4, "true[": 4, "int": 0, "fn": 0, "if": 0, "let": 0, "a[1][2]": 4, "a()[1]": 3, "a()()": 3, "a[": 2, "a[]": 2, "a(": 2, "a(1": 3, "a(,)": 2, "{": 0, "1=2": 1, ":": 0,
	} {
		wantFault(t, "fn f() { x = "+s, 13+at, api.ErrText)
	}
}

func TestScansFaultsComeFirst(t *testing.T) {
	wantFault(t, "fn fn $", 6, api.ErrText)
	wantFault(t, "} abcdefghijklm", 2, api.ErrLong)
	wantFault(t, "x 02", 2, api.ErrText)
	wantFault(t, "fn f() { x = 9223372036854775808; }", 13, api.ErrLong)
	wantFault(t, strings.Repeat("(", api.MaxNest+50)+" A", api.MaxNest+51, api.ErrText)
	wantFault(t, "}"+strings.Repeat(" ", api.MaxSource), 0, api.ErrLong)
	mustParse(t, "fn f(){}"+strings.Repeat(" ", api.MaxSource-8))
	wantFault(t, "fn f(){}"+strings.Repeat(" ", api.MaxSource-7), 0, api.ErrLong)
}

func TestDeepBrackets(t *testing.T) {
	open := func(s string, n int) string { return strings.Repeat(s, n) }
	head := "fn f(){x="
	mustParse(t, head+open("(", 199)+"1"+open(")", 199)+";}")
	wantFault(t, head+open("(", 200)+"1"+open(")", 200)+";}", 9+199, api.ErrDeep)
	mustParse(t, head+open("a[", 199)+"1"+open("]", 199)+";}")
	wantFault(t, head+open("a[", 200)+"1"+open("]", 200)+";}", 9+2*199+1, api.ErrDeep)
	mustParse(t, head+open("f(", 199)+open(")", 199)+";}")
	wantFault(t, head+open("f(", 200)+open(")", 200)+";}", 9+2*199+1, api.ErrDeep)
	mustParse(t, "fn f(){"+open("if a{", 199)+open("}", 200))
	wantFault(t, "fn f(){"+open("if a{", 200)+open("}", 201), 7+5*199+4, api.ErrDeep)
	mustParse(t, "fn f(){"+open("while a{", 198)+"f(x);"+open("}", 199))
	mixed := "fn f(){" + open("while a{", 198) + "f("
	wantFault(t, mixed+"read(", len(mixed)+4, api.ErrDeep)
	wantFault(t, mixed+"len(", len(mixed)+3, api.ErrDeep)
	wantFault(t, mixed+"a[", len(mixed)+1, api.ErrDeep)
	arr := "fn f(){" + open("if a{}else{", 199)
	wantFault(t, arr+"let a:arr[", len(arr)+9, api.ErrDeep)
	wantFault(t, arr+"if a{", len(arr)+4, api.ErrDeep)
	wantFault(t, arr+"a[", len(arr)+1, api.ErrDeep)
}

func TestClosedBracketsDontCount(t *testing.T) {
	mustParse(t, "fn f(){"+strings.Repeat("f((a[1]));", 500)+"}")
	mustParse(t, strings.Repeat("fn f(a:int){if a{}}", 500))
	deep := "x=" + strings.Repeat("(", 199) + "1" + strings.Repeat(")", 199) + ";"
	mustParse(t, "fn f(){"+strings.Repeat(deep, 20)+"}")
}

func TestDeepOrWrong(t *testing.T) {
	full := "fn f(){x=" + strings.Repeat("(", 199)
	wantFault(t, full+"{", len(full), api.ErrText)
	wantFault(t, full+"[", len(full), api.ErrText)
	wantFault(t, full+"1(", len(full)+1, api.ErrText)
	wantFault(t, full+")(", len(full), api.ErrText)
	wantFault(t, full+"((", len(full), api.ErrDeep)
	wantFault(t, full+"(}", len(full), api.ErrDeep)
	wantFault(t, "fn f(){)"+full, 7, api.ErrText)
}

func TestLongChains(t *testing.T) {
	p := mustParse(t, "fn f(){x="+strings.Repeat("-", 19980)+"1;}")
	if s := Show(p); s != "fn f() {\n  x = "+strings.Repeat("-", 19980)+"1;\n}\n" {
		t.Error("a chain of signs of one", len(s))
	}
	p = mustParse(t, "fn f(){x=1"+strings.Repeat("+1", 9990)+";}")
	if s := Show(p); s != "fn f() {\n  x = 1"+strings.Repeat(" + 1", 9990)+";\n}\n" {
		t.Error("a chain of sums", len(s))
	}
}

func TestParseAnswersNewMemory(t *testing.T) {
	s := "fn f(a: int, b: int) { if a { x[1] = 2; f(1, 2); } else { y = 3; } }"
	first, again := mustParse(t, s), mustParse(t, s)
	spoil(first.Funcs)
	if !reflect.DeepEqual(again, mustParse(t, s)) {
		t.Error("what is answered hangs together with an earlier answer")
	}
}

// spoil writes over all lists of functions, spare room too.
func spoil(l []api.Func) {
	for _, f := range l {
		spoilBody(f.Body)
		clear(f.Params[:cap(f.Params)])
	}
	clear(l[:cap(l)])
}

func spoilBody(l []api.Stmt) {
	for _, s := range l {
		for _, e := range s.Exprs {
			clear(e.Args[:cap(e.Args)])
		}
		clear(s.Exprs[:cap(s.Exprs)])
		spoilBody(s.Body)
		spoilBody(s.Else)
	}
	clear(l[:cap(l)])
}
