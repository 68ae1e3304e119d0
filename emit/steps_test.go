package emit_test

import (
	"strconv"
	"strings"
	"testing"

	"teasel/api"
	"teasel/emit"
	"teasel/samples"
	"teasel/vet"
	"teasel/vm"
)

// most is how many bytes a text has that is never refused.
const most = 2000

// filled answers a text of as many bytes as it may have: a head, then rows, over and over, then a tail.
func filled(head, row, tail string) string {
	return head + strings.Repeat(row, (most-len(head)-len(tail))/len(row)) + tail
}

// repeated answers a row of so many texts, made of their numbers.
func repeated(n int, of func(k int) string) string {
	var s strings.Builder
	for k := range n {
		s.WriteString(of(k))
	}
	return s.String()
}

// name answers that of a variable.
func name(k int) string {
	return string(rune('a'+k%26)) + strconv.Itoa(k/26)
}

// denseTexts are such that much is done between two marks: where calls end of which as many are open as may be, where many variables are carried, where much goes ahead of a loop, and where sums stand for many products.
func denseTexts() map[string]string {
	deep := "fn f(n: int): int { if n < 1 { return 0; } return f(n - 1)"
	end := "; } fn main(): int { return f(98); }"
	truth := "fn f(n: int, a: bool): bool { if n < 1 { return true; } return f(n - 1, a)"
	vars := func(n int) string { return repeated(n, func(k int) string { return "let " + name(k) + ":int=n;" }) }
	sums := func(n int) string { return repeated(n, func(k int) string { return "+" + name(k) }) }
	l := map[string]string{
		"sums":            filled(deep, " + 1", end),
		"dense sums":      filled(deep, "+1", end),
		"of a variable":   filled(deep, "+n", end),
		"many numbers":    filled(deep, "+1-2+3-4+5-6+7-8+9", end),
		"great numbers":   filled(deep, " + 10 ^ 11 - 12 & 13 | 14 * 15", end),
		"products":        filled(deep, "*3/7", end),
		"shifts":          filled(deep, "<<1>>2", end),
		"minus":           filled(deep, "-----------------------------------n", end),
		"all signs":       filled(deep, "+-~-~~--~-~-~-~~-~~-~-~-~--~n", end),
		"and":             filled(truth, " && a", "; } fn main(): int { print f(98, true); return 0; }"),
		"or":              filled(truth, " || a", "; } fn main(): int { print f(98, false); return 0; }"),
		"dense and":       filled(truth, "&&a", "; } fn main(): int { print f(98, true); return 0; }"),
		"dense or":        filled(truth, "||a", "; } fn main(): int { print f(98, false); return 0; }"),
		"and not":         filled(truth, "&&!a||!!a", "; } fn main(): int { print f(98, true); return 0; }"),
		"and less":        filled(truth, "&&n<9", "; } fn main(): int { print f(98, true); return 0; }"),
		"not":             filled(truth, " == !!!!!!!!!!!!!!!!!!!!!!a", "; } fn main(): int { print f(98, true); return 0; }"),
		"cells":           filled("fn f(n: int, a: arr): int { if n < 1 { return 0; } return f(n - 1, a)", "+a[1]", "; } fn main(): int { let a: arr[2]; return f(98, a); }"),
		"one expression":  filled("fn main(): int { return 0", "+1", "; }"),
		"brackets":        filled("fn main(): int { return "+strings.Repeat("(", 190)+"1", "+read()", strings.Repeat(")", 190)+"; }"),
		"calls":           filled("fn f(a: int, b: int) { } fn main(): int { let i: int = 0; while i < 9 { ", "f(i,2);", "i = i + 1; } return 0; }"),
		"small functions": filled("fn f(a: int, b: int): int { return a * 3 + b * 5; } fn main(): int { let i: int = 0; while i < 9 { print 0", "+f(1,i)", "; i = i + 1; } return 0; }"),
		"ahead of a loop": filled("fn main(): int { let n: int = read(); let i: int = 0; while i < n { print 0", "+n*n*3", "; i = i + 1; } return 0; }"),
		"many ifs":        filled("fn main(): int { let a: int = 0; let b: bool = read() > 0; ", "if b{a=1;}", "return a; }"),
		"many whiles":     filled("fn main(): int { let a: int = 3; ", "while a<9{a=a+1;}", "return a; }"),
	}
	for _, n := range []int{14, 20, 30, 50} {
		l["many variables "+strconv.Itoa(n)] = filled("fn f(n: int): int { if n < 1 { return 0; } "+vars(n)+"return f(n - 1)", sums(n)+" ", end)
		l["one of many "+strconv.Itoa(n)] = filled("fn f(n: int): int { if n < 1 { return 0; } "+vars(n)+"return f(n - 1)"+sums(n), "+"+name(n-1), end)
		set := repeated(n, func(k int) string { return name(k) + "=2;" })
		head := "fn main(): int { let n: int = read(); let b: bool = n > 0; " + vars(n)
		depth := min(190, (most-len(head)-len(set)-len(sums(n))-20)/6)
		l["ifs in ifs "+strconv.Itoa(n)] = head + strings.Repeat("if b{", depth) + set + strings.Repeat("}", depth) + "return 0" + sums(n) + ";}"
		depth = min(190, (most-len(head)-len(set)-len(sums(n))-30)/9)
		l["whiles in whiles "+strconv.Itoa(n)] = head + strings.Repeat("while b{", depth) + set + "b=false;" + strings.Repeat("}", depth) + "return 0" + sums(n) + ";}"
	}
	l["products of a counter"] = "fn main(): int { let i: int = 0; while i < 9 { print 0" + repeated(320, func(k int) string { return "+i*" + strconv.Itoa(10+k%90) }) + "; i = i + 1; } return 0; }"
	l["loops in loops"] = "fn main(): int { let a0: int = read(); " +
		repeated(16, func(k int) string {
			return "let " + name(k+1) + ": int = " + name(k) + "; while " + name(k+1) + " < read() { "
		}) +
		"print 0" + repeated(170, func(k int) string { return "+q0*" + strconv.Itoa(10+k%90) }) + "; " +
		repeated(16, func(k int) string { return name(16-k) + " = " + name(16-k) + " + 1; } " }) + "return 0; }"
	return l
}

// pace answers how many steps a machine takes at most ahead of its first mark, between two, and behind its last one.
func pace(t *testing.T, img api.Image, input []int64) int {
	t.Helper()
	m, _ := vm.New(img, input)
	longest, before := 0, 0
	for goes := true; goes && m.Status().Marks < 5200; {
		goes = m.ToMark(1 << 20)
		n := m.Status().Steps
		longest, before = max(longest, n-before), n
	}
	if s := m.Status(); s.End == 0 && s.Marks < 5200 {
		t.Fatal("it goes on", s)
	}
	return longest
}

// TestPace: of the densest texts, with several sets of passes.
func TestPace(t *testing.T) {
	t.Parallel()
	input := []int64{1}
	for len(input) < 3000 {
		input = append(input, 3)
	}
	for name, s := range denseTexts() {
		if len(s) > most || len(s) < most*2/3 {
			t.Errorf("%s has %d bytes", name, len(s))
		}
		for _, opt := range []byte{0, 1, 12, 24, 31, emit.All} {
			img, at, e := emit.Compile(s, opt)
			if e != api.OK {
				t.Fatalf("%s: %d at %d, with %d", name, e, at, opt)
			}
			if at, e := vet.Check(img); e != api.OK {
				t.Fatalf("%s: the image isn't sound at %d by %d, with %d", name, at, e, opt)
			}
			if n := pace(t, img, input); n > 100000 {
				t.Errorf("%s: %d steps, with %d", name, n, opt)
			}
		}
	}
}

func TestPaceByChance(t *testing.T) {
	t.Parallel()
	for seed := range uint64(600) {
		s := samples.Text(seed, 0)
		if len(s) > most {
			continue
		}
		img, _, e := emit.Compile(s, byte(seed)%64)
		if e != api.OK {
			t.Fatal(e, s)
		}
		if n := pace(t, img, []int64{3, -1, 0, int64(seed), 7, 1, 2, 5}); n > 100000 {
			t.Errorf("%d steps, of\n%s", n, s)
		}
	}
}

// TestLongTexts: as long as there may be, soon compiled, though no promise says that they are.
func TestLongTexts(t *testing.T) {
	t.Parallel()
	fill := func(head, row, tail string) string {
		return head + strings.Repeat(row, (api.MaxSource-len(head)-len(tail))/len(row)) + tail
	}
	for _, s := range []string{
		fill("fn main(): int { let x: int = 0; let y: int = 5; ", "x = x + 1; y = x; ", "return 0; }"),
		repeated(1300, func(k int) string { return "fn f" + strconv.Itoa(k) + "(){}" }) + "fn main(): int { return 0; }",
		fill("fn main(): int { return 0", "+1", "; }"),
	} {
		for _, opt := range []byte{0, emit.All} {
			img, at, e := emit.Compile(s, opt)
			if e != api.OK {
				t.Fatal(e, at)
			}
			if s := runImage(t, img, nil); s.End != api.Halt {
				t.Error(s.End)
			}
		}
	}
}
