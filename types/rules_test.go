package types_test

import (
	"strconv"
	"strings"
	"testing"

	"teasel/api"
)

// table is bodies of a main, each with the error that Check must tell at its @.
type table map[string]api.Errno

func (l table) want(t *testing.T, ahead string) {
	t.Helper()
	for body, e := range l {
		wantBody(t, ahead+body, e)
	}
}

// some are variables of all kinds: n, b, a; and u and v that aren't sure.
const some = "let n: int = 1; let b: bool = true; let a: arr[3]; let u: int; let v: bool; "

func TestLets(t *testing.T) {
	table{
		"let x: int = 1; let y: bool = false; let z: int; let w: bool; let a: arr[1];": api.OK,
		"let none: int = 1; let main: bool; none = none + num();":                      api.OK,
		"let x: int = @true;":                      api.ErrType,
		"let x: bool = @0;":                        api.ErrType,
		"let x: int = 1 @< 2;":                     api.ErrType,
		"let x: int = @none();":                    api.ErrType,
		"let x: bool = @num();":                    api.ErrType,
		"let a: arr[2]; let x: int = @a;":          api.ErrType,
		"let a: arr[2]; let x: bool = @a;":         api.ErrType,
		"let x: int = @x;":                         api.ErrName,
		"if true { let x: int; } let y: int = @x;": api.ErrName,
		"let x: int; let y: bool = @x < 1;":        api.ErrInit,
	}.want(t, "")
}

func TestNamesThatTheFunctionHasHad(t *testing.T) {
	table{
		"let x: int; @let x: int;":                                api.ErrTwice,
		"let a: arr[3]; @let a: bool;":                            api.ErrTwice,
		"if true { let x: int; } @let x: int;":                    api.ErrTwice,
		"if true { let x: int; } else { @let x: int; }":           api.ErrTwice,
		"while true { let x: int; } while true { @let x: bool; }": api.ErrTwice,
		"if true { let x: int; } let y: int;":                     api.OK,
	}.want(t, "")
	wantText(t, "fn f(a: int){ @let a: int; } fn main(): int { return 0; }", api.ErrTwice)
	wantText(t, "fn f(a: int){ if true { @let a: int; } } fn main(): int { return 0; }", api.ErrTwice)
}

func TestArrays(t *testing.T) {
	table{
		"let a: arr[1]; let c: arr[256]; if true { } let d: arr[3];": api.OK,
		"if true { @let a: arr[3]; }":                                api.ErrForm,
		"if true { } else { @let a: arr[3]; }":                       api.ErrForm,
		"while false { @let a: arr[3]; }":                            api.ErrForm,
		"while false { if true { @let a: arr[3]; } }":                api.ErrForm,
		"@let a: arr[0];":                                            api.ErrArg,
		"@let a: arr[257];":                                          api.ErrArg,
		"@let a: arr[4294967297];":                                   api.ErrArg,
		"@let a: arr[9223372036854775807];":                          api.ErrArg,
	}.want(t, "")
}

// TestOrderAtALet: its expression, a name that was had, an array in a block, its length, too many variables.
func TestOrderAtALet(t *testing.T) {
	table{
		"let x: int; let x: bool = @1;":           api.ErrType,
		"let x: int; let x: bool = @y;":           api.ErrName,
		"let x: int; let x: bool = @x;":           api.ErrInit,
		"let x: int; if true { @let x: arr[0]; }": api.ErrTwice,
		"let x: int; @let x: arr[0];":             api.ErrTwice,
		"while false { @let a: arr[0]; }":         api.ErrForm,
		"while false { @let a: arr[257]; }":       api.ErrForm,
	}.want(t, "")
	full := many(api.MaxLocals)
	table{
		full + "@let x: int = 1;":               api.ErrLong,
		full + "let x: int = @true;":            api.ErrType,
		full + "@let a0: int;":                  api.ErrTwice,
		full + "@let x: arr[0];":                api.ErrArg,
		full + "@let x: arr[1];":                api.ErrLong,
		full + "if true { @let x: arr[1]; }":    api.ErrForm,
		full + "if true { @let x: int; }":       api.ErrLong,
		full + "while true { @let x: arr[0]; }": api.ErrForm,
	}.want(t, "")
}

// many answers n lets of ints, of which the first one is a0.
func many(n int) string {
	var s strings.Builder
	for i := range n {
		s.WriteString("let a" + strconv.Itoa(i) + ": int; ")
	}
	return s.String()
}

func TestMaxLocals(t *testing.T) {
	wantBody(t, many(api.MaxLocals), api.OK)
	wantBody(t, many(api.MaxLocals-1)+"@let x: arr[0];", api.ErrArg)
	wantBody(t, many(api.MaxLocals-1)+"let x: arr[1];", api.OK)
	head := "fn f(p: int, q: bool, r: arr) {"
	tail := "} fn main(): int { return 0; }"
	wantText(t, head+many(api.MaxLocals-3)+tail, api.OK)
	wantText(t, head+many(api.MaxLocals-3)+"@let x: bool;"+tail, api.ErrLong)
	wantText(t, head+"if true {"+many(200)+"} while true {"+strings.ReplaceAll(many(52), "let ", "let x")+"@let y: int; }"+tail, api.ErrLong)
	wantText(t, head+many(200)+"} fn g(){"+many(200)+tail, api.OK)
}

func TestAssignments(t *testing.T) {
	table{
		"n = 2; b = n < 3; u = n; v = b; u = u; v = !v;": api.OK,
		"@x = 1;":                               api.ErrName,
		"@x = true + 1;":                        api.ErrName,
		"@num = 1;":                             api.ErrName,
		"if true { let y: int; } @y = 1;":       api.ErrName,
		"while true { let y: int; } @y = 1;":    api.ErrName,
		"while true { @y = 1; let y: int; }":    api.ErrName,
		"if b { let y: int; } else { @y = 1; }": api.ErrName,
		"@a = 1;":                               api.ErrType,
		"@a = a;":                               api.ErrType,
		"@a = x;":                               api.ErrType,
		"n = @true;":                            api.ErrType,
		"b = @1;":                               api.ErrType,
		"n = @a;":                               api.ErrType,
		"n = @none();":                          api.ErrType,
		"b = n @+ 1;":                           api.ErrType,
		"n = @x;":                               api.ErrName,
		"u = @u + 1;":                           api.ErrInit,
	}.want(t, some)
	wantText(t, "fn f(p: int, q: arr) { p = 2; q[0] = p; } fn main(): int { return 0; }", api.OK)
	wantText(t, "fn f(p: int, q: arr) { @q = 2; } fn main(): int { return 0; }", api.ErrType)
}

func TestCells(t *testing.T) {
	table{
		"a[0] = 1; a[n] = a[a[n]]; n = a[len(a)];": api.OK,
		"@x[0] = 1;":                      api.ErrName,
		"@x[true] = 1;":                   api.ErrName,
		"@n[0] = 1;":                      api.ErrType,
		"@b[true] = true;":                api.ErrType,
		"@u[x] = 1;":                      api.ErrType,
		"a[@true] = 1;":                   api.ErrType,
		"a[@true] = true;":                api.ErrType,
		"a[@a] = x;":                      api.ErrType,
		"a[@x] = true;":                   api.ErrName,
		"a[@u] = true;":                   api.ErrInit,
		"a[0] = @true;":                   api.ErrType,
		"a[0] = @a;":                      api.ErrType,
		"a[0] = @none();":                 api.ErrType,
		"a[0] = @x;":                      api.ErrName,
		"n = @x[0];":                      api.ErrName,
		"n = @x[true];":                   api.ErrName,
		"n = @n[0];":                      api.ErrType,
		"n = @u[true];":                   api.ErrType,
		"n = a[@b];":                      api.ErrType,
		"b = @a[0];":                      api.ErrType,
		"b = a[@b];":                      api.ErrType,
		"b = a[@x];":                      api.ErrName,
		"n = a[@u];":                      api.ErrInit,
		"n = a[n @== 1];":                 api.ErrType,
		"if b { let c: int; } n = @c[0];": api.ErrName,
		"n = @num[0];":                    api.ErrName,
	}.want(t, some)
}

func TestConditions(t *testing.T) {
	table{
		"if b { } else { } while b { } if n < 1 { } while is() { }": api.OK,
		"if @n { }":                 api.ErrType,
		"while @1 { }":              api.ErrType,
		"if @a { }":                 api.ErrType,
		"while @none() { }":         api.ErrType,
		"if n @+ 1 { x = 1; }":      api.ErrType,
		"if @x { }":                 api.ErrName,
		"while @v { v = true; }":    api.ErrInit,
		"if @x { y = 1; }":          api.ErrName,
		"while @n { y = 1; }":       api.ErrType,
		"if b { @y = 1; }":          api.ErrName,
		"if b { } else { @y = 1; }": api.ErrName,
		"while b { @y = 1; }":       api.ErrName,
	}.want(t, some)
}

func TestReturns(t *testing.T) {
	for s, e := range map[string]api.Errno{
		"fn f() { return; }":                                  api.OK,
		"fn f() { return @1; }":                               api.ErrType,
		"fn f() { return @true; }":                            api.ErrType,
		"fn f() { return @f(); }":                             api.ErrType,
		"fn f(a: arr) { return @a; }":                         api.ErrType,
		"fn f() { return 1 @+ 2; }":                           api.ErrType,
		"fn f() { if true { return @1; } }":                   api.ErrType,
		"fn f(): int { return 1; }":                           api.OK,
		"fn f(): int { @return; }":                            api.ErrType,
		"fn f(): int { return @true; }":                       api.ErrType,
		"fn f(a: arr): int { return @a; }":                    api.ErrType,
		"fn f(): int { return @g(); } fn g() { }":             api.ErrType,
		"fn f(): int { return @x; }":                          api.ErrName,
		"fn f(): int { let x: bool; return @x; }":             api.ErrInit,
		"fn f(): int { return 1 @== 2; }":                     api.ErrType,
		"fn f(): bool { return 1 == 2; }":                     api.OK,
		"fn f(): bool { @return; }":                           api.ErrType,
		"fn f(): bool { return @0; }":                         api.ErrType,
		"fn f(): bool { if true { @return; } return false; }": api.ErrType,
	} {
		wantText(t, s+" fn main(): int { return 0; }", e)
	}
}

// TestAResultThatMustNotBe: an expression that mustn't stand there isn't looked at any closer.
func TestAResultThatMustNotBe(t *testing.T) {
	wantText(t, "fn f() { return @x; } fn main(): int { return 0; }", api.ErrType)
	wantText(t, "fn f() { let x: int; return @x; } fn main(): int { return 0; }", api.ErrType)
	wantText(t, "fn f() { return true @+ 1; } fn main(): int { return 0; }", api.ErrType)
}

func TestPrintsAndCalls(t *testing.T) {
	table{
		"print n; print b; print 1; print true; print num(); print is(); print n < 1; print a[0]; print len(a);": api.OK,
		"print @a;":      api.ErrType,
		"print @none();": api.ErrType,
		"print @x;":      api.ErrName,
		"print @u;":      api.ErrInit,
		"none(); num(); is(); cells(a); mix(n, b, a); mix(num(), is(), a);": api.OK,
		"@x();":                         api.ErrName,
		"@x(y);":                        api.ErrName,
		"@n();":                         api.ErrName,
		"@none(1);":                     api.ErrCount,
		"@none(x);":                     api.ErrCount,
		"@cells();":                     api.ErrCount,
		"@mix(n, b);":                   api.ErrCount,
		"@mix(n, b, a, n);":             api.ErrCount,
		"@mix(x, y, z, w, 1, 2, 3);":    api.ErrCount,
		"mix(@b, n, 1);":                api.ErrType,
		"mix(n, @n, 1);":                api.ErrType,
		"mix(n, b, @n);":                api.ErrType,
		"mix(@a, x, y);":                api.ErrType,
		"mix(n, @x, y);":                api.ErrName,
		"mix(@none(), x, y);":           api.ErrType,
		"mix(n, b, @num());":            api.ErrType,
		"mix(@u, x, a);":                api.ErrInit,
		"mix(@true, u, a);":             api.ErrType,
		"cells(@0);":                    api.ErrType,
		"cells(@x);":                    api.ErrName,
		"cells(@a[0]);":                 api.ErrType,
		"n = @x(1);":                    api.ErrName,
		"n = @num(1);":                  api.ErrCount,
		"n = mix(mix(n, @n, a), 1, 2);": api.ErrType,
	}.want(t, some)
}

func TestOperands(t *testing.T) {
	table{
		"n = 1; n = read(); n = len(a); n = a[0]; n = num(); n = n; b = true; b = false; b = is(); b = b;": api.OK,
		"b = @1;":                          api.ErrType,
		"b = @read();":                     api.ErrType,
		"b = @len(a);":                     api.ErrType,
		"b = @a[0];":                       api.ErrType,
		"b = @num();":                      api.ErrType,
		"n = @true;":                       api.ErrType,
		"n = @false;":                      api.ErrType,
		"n = @is();":                       api.ErrType,
		"n = @x;":                          api.ErrName,
		"n = @num;":                        api.ErrName,
		"n = @u;":                          api.ErrInit,
		"n = @v;":                          api.ErrInit,
		"n = @len(x);":                     api.ErrName,
		"n = @len(n);":                     api.ErrType,
		"n = @len(v);":                     api.ErrType,
		"b = @len(x);":                     api.ErrName,
		"b = @len(n);":                     api.ErrType,
		"if b { let c: int = 1; } n = @c;": api.ErrName,
	}.want(t, some)
	wantText(t, "fn f(p: arr): int { return len(p) + p[0]; } fn main(): int { return 0; }", api.OK)
	wantText(t, "fn f(p: arr) { } fn main(): int { return @len(p); }", api.ErrName)
}

func TestSignsOfOne(t *testing.T) {
	table{
		"n = -n; n = ~n; b = !b; n = -~-1; b = !!true; n = -(-1);": api.OK,
		"n = -@b;":      api.ErrType,
		"n = ~@b;":      api.ErrType,
		"b = !@n;":      api.ErrType,
		"n = -@a;":      api.ErrType,
		"b = !@a;":      api.ErrType,
		"b = !@none();": api.ErrType,
		"b = @-n;":      api.ErrType,
		"b = @~n;":      api.ErrType,
		"n = @!b;":      api.ErrType,
		"n = -@!b;":     api.ErrType,
		"b = !@-n;":     api.ErrType,
		"b = @-1;":      api.ErrType,
		"n = -@x;":      api.ErrName,
		"b = !@v;":      api.ErrInit,
		"b = -@b;":      api.ErrType,
	}.want(t, some)
}

// TestSignsOfTwo: every sign with operands of every type, on either side.
func TestSignsOfTwo(t *testing.T) {
	operands := map[string]string{"int": "n", "bool": "b", "arr": "a", "none": "none()"}
	for sign, rule := range map[string]string{
		"+": "int int", "-": "int int", "*": "int int", "/": "int int", "%": "int int",
		"&": "int int", "|": "int int", "^": "int int", "<<": "int int", ">>": "int int",
		"<": "int bool", "<=": "int bool", ">": "int bool", ">=": "int bool",
		"&&": "bool bool", "||": "bool bool", "==": "any bool", "!=": "any bool",
	} {
		needs, result, _ := strings.Cut(rule, " ")
		to, not := "n", "b"
		if result == "bool" {
			to, not = "b", "n"
		}
		for left, l := range operands {
			for right, r := range operands {
				leftFits := left == needs || needs == "any" && (left == "int" || left == "bool")
				rightFits := right == left
				switch {
				case leftFits && rightFits:
					wantBody(t, some+to+" = "+l+" "+sign+" "+r+";", api.OK)
					wantBody(t, some+not+" = "+l+" @"+sign+" "+r+";", api.ErrType)
				case leftFits:
					wantBody(t, some+to+" = "+l+" "+sign+" @"+r+";", api.ErrType)
				default:
					wantBody(t, some+to+" = @"+l+" "+sign+" "+r+";", api.ErrType)
				}
			}
		}
	}
}

// TestOrderInExpressions: an operand's own rules, then its type, then the next operand's.
func TestOrderInExpressions(t *testing.T) {
	table{
		"n = @x + y;":                api.ErrName,
		"n = @b + x;":                api.ErrType,
		"n = @u + x;":                api.ErrInit,
		"n = n + @x;":                api.ErrName,
		"b = @1 && x;":               api.ErrType,
		"b = b && @x;":               api.ErrName,
		"b = @a == x;":               api.ErrType,
		"b = @none() != x;":          api.ErrType,
		"b = n == @x;":               api.ErrName,
		"b = (n == @b) + x;":         api.ErrType,
		"b = (n @== n) + x;":         api.ErrType,
		"n = (@b + n) && x;":         api.ErrType,
		"n = n + n * @b + x;":        api.ErrType,
		"n = a[@b] + x;":             api.ErrType,
		"n = len(a) + a[@x[y]];":     api.ErrName,
		"n = @num(x[y]);":            api.ErrCount,
		"n = mix(n + @b, x, a);":     api.ErrType,
		"n = mix(n @< n, x, a);":     api.ErrType,
		"b = 1 + 2 < 3 == (@b < n);": api.ErrType,
	}.want(t, some)
}
