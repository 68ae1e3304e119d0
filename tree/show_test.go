package tree

import (
	"reflect"
	"strings"
	"testing"

	"teasel/api"
)

// wantShown holds the canonical text of a text against the one that it must be; and that one is its own.
func wantShown(t *testing.T, s, want string) {
	t.Helper()
	p := mustParse(t, s)
	shown := Show(p)
	if shown != want {
		t.Errorf("Show of %.80q:\n%s, want\n%s", s, shown, want)
	}
	again := mustParse(t, shown)
	if Show(again) != shown {
		t.Errorf("Show of %.80q isn't its own canonical text", shown)
	}
	if !reflect.DeepEqual(withoutPlaces(p), withoutPlaces(again)) {
		t.Errorf("%.80q is another program than what is shown of it", s)
	}
}

func withoutPlaces(p api.Prog) api.Prog {
	var out api.Prog
	for _, f := range p.Funcs {
		f.At, f.Body = 0, bodyWithoutPlaces(f.Body)
		var params []api.Param
		for _, q := range f.Params {
			q.At = 0
			params = append(params, q)
		}
		f.Params = params
		out.Funcs = append(out.Funcs, f)
	}
	return out
}

func bodyWithoutPlaces(l []api.Stmt) []api.Stmt {
	var out []api.Stmt
	for _, s := range l {
		s.At, s.Exprs, s.Body, s.Else = 0, exprsWithoutPlaces(s.Exprs), bodyWithoutPlaces(s.Body), bodyWithoutPlaces(s.Else)
		out = append(out, s)
	}
	return out
}

func exprsWithoutPlaces(l []api.Expr) []api.Expr {
	var out []api.Expr
	for _, e := range l {
		e.At, e.Args = 0, exprsWithoutPlaces(e.Args)
		out = append(out, e)
	}
	return out
}

func TestShowFunctions(t *testing.T) {
	wantShown(t, "fn f(){}", "fn f() {\n}\n")
	wantShown(t, "fn main():int{}", "fn main(): int {\n}\n")
	wantShown(t, "fn f(a:int):bool{}", "fn f(a: int): bool {\n}\n")
	wantShown(t, "fn  f ( a :int,b:bool , c:arr ) # x\n{ }fn g(){}", "fn f(a: int, b: bool, c: arr) {\n}\nfn g() {\n}\n")
}

func TestShowStatements(t *testing.T) {
	wantShown(t, "fn f(){let a:int;let b:bool=true;let c:int=-1;let d:arr[12];let e:arr[0];}",
		"fn f() {\n  let a: int;\n  let b: bool = true;\n  let c: int = -1;\n  let d: arr[12];\n  let e: arr[0];\n}\n")
	wantShown(t, "fn f(){a=1;a[i+1]=b[2];f();f(1);f(a,g(),3);return;return x;print y;}",
		"fn f() {\n  a = 1;\n  a[i + 1] = b[2];\n  f();\n  f(1);\n  f(a, g(), 3);\n  return;\n  return x;\n  print y;\n}\n")
	wantShown(t, "fn f(){return(1);print(2);x=(3);if(a){}while(b){}}",
		"fn f() {\n  return 1;\n  print 2;\n  x = 3;\n  if a {\n  }\n  while b {\n  }\n}\n")
}

func TestShowBlocks(t *testing.T) {
	wantShown(t, "fn f(){if a{}if a{}else{}while b{}}",
		"fn f() {\n  if a {\n  }\n  if a {\n  }\n  while b {\n  }\n}\n")
	wantShown(t, "fn f(){if a{}else{x=1;}}",
		"fn f() {\n  if a {\n  } else {\n    x = 1;\n  }\n}\n")
	wantShown(t, "fn f(){if a{while b{if c{x=1;}else{y=2;}print 3;}}else{if d{z=4;}}return;}",
		"fn f() {\n  if a {\n    while b {\n      if c {\n        x = 1;\n      } else {\n        y = 2;\n      }\n      print 3;\n    }\n  } else {\n    if d {\n      z = 4;\n    }\n  }\n  return;\n}\n")
}

func TestShowDeepBlocks(t *testing.T) {
	var want strings.Builder
	want.WriteString("fn f() {\n")
	for i := 1; i < api.MaxNest; i++ {
		want.WriteString(strings.Repeat("  ", i) + "while a {\n")
	}
	want.WriteString(strings.Repeat("  ", api.MaxNest) + "return;\n")
	for i := api.MaxNest - 1; i >= 0; i-- {
		want.WriteString(strings.Repeat("  ", i) + "}\n")
	}
	wantDeep := "fn f(){" + strings.Repeat("while a{", api.MaxNest-1) + "return;" + strings.Repeat("}", api.MaxNest)
	if shown := Show(mustParse(t, wantDeep)); shown != want.String() {
		t.Error("blocks as deep as they may be", shown)
	}
}

func TestShowLongTexts(t *testing.T) {
	body := strings.Repeat("f();", (api.MaxSource-8)/4)
	want := "fn f() {\n" + strings.Repeat("  f();\n", (api.MaxSource-8)/4) + "}\n"
	if shown := Show(mustParse(t, "fn f(){"+body+"}")); shown != want {
		t.Error("as many statements as there may be", len(shown), len(want))
	}
	args := strings.Repeat("1,", 9990) + "1"
	want = "fn f() {\n  f(" + strings.Repeat("1, ", 9990) + "1);\n}\n"
	if shown := Show(mustParse(t, "fn f(){f("+args+");}")); shown != want {
		t.Error("as many arguments as there may be", len(shown), len(want))
	}
}

// wantLine is wantShown of a function with one statement.
func wantLine(t *testing.T, s, want string) {
	t.Helper()
	wantShown(t, "fn f(){x="+s+";}", "fn f() {\n  x = "+want+";\n}\n")
}

func TestShowExpressions(t *testing.T) {
	for _, s := range []string{"0", "9223372036854775807", "true", "false", "x", "read()", "len(x)", "x[1 + 2]", "x[y[z[0]]]", "f()", "f(1, 2 + 3, g(x))", "-1", "~x", "!true", "-~!-x", "-f(x)", "!x[1]", "-read()", "a - -b", "a - ~-b", "a[(1 + 2) * 3]", "f((1 + 2) * 3)"} {
		wantLine(t, s, s)
	}
	wantLine(t, "1 + 2 * 3", "1 + 2 * 3")
	wantLine(t, "(1 - 2) - (3 - 4)", "1 - 2 - (3 - 4)")
	wantLine(t, "(((1)))+((x))*(-(y))", "1 + x * -y")
	wantLine(t, "-(1+2)", "-(1 + 2)")
	wantLine(t, "-(1)+2", "-1 + 2")
	wantLine(t, "!((a))", "!a")
	wantLine(t, "!(a||b)&&c", "!(a || b) && c")
	wantLine(t, "-(-(x*y))", "--(x * y)")
	wantLine(t, "x[(1+2)]+f((1+2),(3))", "x[1 + 2] + f(1 + 2, 3)")
	wantLine(t, "(a*b)*c", "a * b * c")
	wantLine(t, "a*(b*c)", "a * (b * c)")
	wantLine(t, "(a+b)*(c+d)", "(a + b) * (c + d)")
	wantLine(t, "(a*b)+(c*d)", "a * b + c * d")
	wantLine(t, "((a<b)<c)==(d==e)", "a < b < c == (d == e)")
	wantLine(t, "(-a)*(b)", "-a * b")
	wantLine(t, "(f(a))+(g(b))", "f(a) + g(b)")
}

// TestShowBrackets: each two signs, in each order, with what stands to the left or right in brackets.
func TestShowBrackets(t *testing.T) {
	for a := byte(api.Add); a <= api.LOr; a++ {
		for b := byte(api.Add); b <= api.LOr; b++ {
			outer, strong := Signs(a)
			inner, weak := Signs(b)
			left, right := "(1 "+inner+" 2)", "(2 "+inner+" 3)"
			wantLeft, wantRight := left, right
			if strong <= weak {
				wantLeft = strings.Trim(left, "()")
			}
			if strong < weak {
				wantRight = strings.Trim(right, "()")
			}
			wantLine(t, left+outer+"3", wantLeft+" "+outer+" 3")
			wantLine(t, "1"+outer+right, "1 "+outer+" "+wantRight)
		}
		sign, _ := Signs(a)
		for _, u := range []string{"-", "~", "!"} {
			wantLine(t, u+"(1"+sign+"2)", u+"(1 "+sign+" 2)")
			wantLine(t, "("+u+"1)"+sign+"("+u+"2)", u+"1 "+sign+" "+u+"2")
		}
	}
}

func TestSigns(t *testing.T) {
	want := map[byte]string{}
	strength := map[byte]int{}
	for i, l := range []string{"18 ||", "17 &&", "15 == 16 !=", "11 < 12 <= 13 > 14 >=", "7 |", "8 ^", "6 &", "9 << 10 >>", "1 + 2 -", "3 * 4 / 5 %", "19 - 20 ~ 21 !"} {
		f := strings.Fields(l)
		for j := 0; j < len(f); j += 2 {
			op := f[j][0] - '0'
			if len(f[j]) > 1 {
				op = op*10 + f[j][1] - '0'
			}
			want[op], strength[op] = f[j+1], i+1
		}
	}
	if len(want) != 21 {
		t.Fatal(want)
	}
	for op := range 256 {
		if s, k := Signs(byte(op)); s != want[byte(op)] || k != strength[byte(op)] {
			t.Errorf("Signs(%d) = %q %d", op, s, k)
		}
	}
}

func TestName(t *testing.T) {
	want := map[int]string{1: "int", 2: "bool", 3: "arr"}
	for kind := range 256 {
		if s := Name(byte(kind)); s != want[kind] {
			t.Errorf("Name(%d) = %q", kind, s)
		}
	}
}

// TestShowOtherPrograms: what is shown of them is free, but it ends, and doesn't panic.
func TestShowOtherPrograms(t *testing.T) {
	var body []api.Stmt
	for kind := range 256 {
		for _, l := range [][]api.Expr{nil, {{}}, {{Kind: byte(kind), Op: byte(kind), N: -1}}, {{Kind: api.EUn}, {Kind: api.EBin}}} {
			body = append(body, api.Stmt{Kind: byte(kind), Type: byte(kind), N: -1, Exprs: l, Body: []api.Stmt{{}}, Else: []api.Stmt{{}}})
		}
	}
	Show(api.Prog{})
	Show(api.Prog{Funcs: []api.Func{{}, {Name: "f", Result: 77, Params: []api.Param{{}, {Type: 9}}, Body: body}}})
	Show(api.Prog{Funcs: make([]api.Func, 100000)})
	deep := []api.Stmt{{Kind: api.SReturn}}
	for range 1 << 16 {
		deep = []api.Stmt{{Kind: api.SIf, Body: deep}}
	}
	Show(api.Prog{Funcs: []api.Func{{Body: deep}}})
}

func TestShowProgramsThatStandInThemselves(t *testing.T) {
	body := make([]api.Stmt, 2)
	body[0] = api.Stmt{Kind: api.SIf, Body: body, Else: body}
	body[1] = api.Stmt{Kind: api.SWhile, Body: body}
	Show(api.Prog{Funcs: []api.Func{{Body: body}}})
	for _, kind := range []byte{api.EElem, api.ECall, api.EUn, api.EBin} {
		args := make([]api.Expr, 50000)
		for i := range args {
			args[i] = api.Expr{Kind: kind, Op: api.Add, Args: args}
		}
		Show(api.Prog{Funcs: []api.Func{{Body: []api.Stmt{{Kind: api.SPrint, Exprs: args}}}}})
	}
}

func TestShowKeepsWhatItIsGiven(t *testing.T) {
	s := "fn f(a: int) { if a { x[1] = (2 + 3) * 4; } else { f(1); } }"
	p := mustParse(t, s)
	first := Show(p)
	if !reflect.DeepEqual(p, mustParse(t, s)) {
		t.Error("the program has changed")
	}
	if Show(p) != first {
		t.Error("another text of the same program")
	}
}
