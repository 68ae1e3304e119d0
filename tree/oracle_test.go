package tree

import (
	"math/rand/v2"
	"strings"
	"testing"

	"teasel/api"
	"teasel/lex"
)

// grammar is the chapter's, written out without its short forms; a word in capitals is a kind of token. What isn't a left side is a word or a sign.
const grammar = `
program -> fn
program -> fn program
fn -> fn' NAME ( params ) result block
params ->
params -> params1
params1 -> param
params1 -> param , params1
param -> NAME : anytype
anytype -> int
anytype -> bool
anytype -> arr
result ->
result -> : int
result -> : bool
block -> { stats }
stats ->
stats -> stat stats
stat -> let NAME : int value ;
stat -> let NAME : bool value ;
stat -> let NAME : arr [ NUMBER ] ;
value ->
value -> = expr
stat -> NAME = expr ;
stat -> NAME [ expr ] = expr ;
stat -> NAME ( args ) ;
args ->
args -> args1
args1 -> expr
args1 -> expr , args1
stat -> if expr block
stat -> if expr block else block
stat -> while expr block
stat -> return ;
stat -> return expr ;
stat -> print expr ;
expr -> unary
expr -> unary sign expr
sign -> ||
sign -> &&
sign -> ==
sign -> !=
sign -> <
sign -> <=
sign -> >
sign -> >=
sign -> |
sign -> ^
sign -> &
sign -> <<
sign -> >>
sign -> +
sign -> -
sign -> *
sign -> /
sign -> %
unary -> - unary
unary -> ~ unary
unary -> ! unary
unary -> NUMBER
unary -> true
unary -> false
unary -> read ( )
unary -> len ( NAME )
unary -> NAME
unary -> NAME [ expr ]
unary -> NAME ( args )
unary -> ( expr )
`

type rules map[string][][]string

func readGrammar() rules {
	g := rules{}
	for _, line := range strings.Split(strings.TrimSpace(grammar), "\n") {
		f := strings.Fields(line)
		g[f[0]] = append(g[f[0]], f[2:])
	}
	return g
}

// item is a rule of which the parts ahead of dot were read, from the token from on.
type item struct {
	left      string
	rule      int
	dot, from int
}

// terminal is what the grammar calls a token; fn' is the word fn, as fn is a left side.
func terminal(k api.Token) string {
	switch k.Kind {
	case api.TokName:
		return "NAME"
	case api.TokNum:
		return "NUMBER"
	case api.TokEnd:
		return "END"
	}
	if k.Text == "fn" {
		return "fn'"
	}
	return k.Text
}

// recognise is Earley's way through a grammar: it answers the first token that can't stand where it stands; -1: there is none.
func recognise(g rules, tokens []api.Token) int {
	sets := make([][]item, len(tokens)+1)
	seen := make([]map[item]bool, len(tokens)+1)
	add := func(i int, x item) {
		if seen[i] == nil {
			seen[i] = map[item]bool{}
		}
		if !seen[i][x] {
			seen[i][x] = true
			sets[i] = append(sets[i], x)
		}
	}
	for r := range g["program"] {
		add(0, item{left: "program", rule: r})
	}
	for i, k := range tokens {
		next := terminal(k)
		whole := false
		for n := 0; n < len(sets[i]); n++ {
			x := sets[i][n]
			parts := g[x.left][x.rule]
			if x.dot == len(parts) {
				whole = whole || x.left == "program" && x.from == 0
				for _, y := range sets[x.from] {
					if p := g[y.left][y.rule]; y.dot < len(p) && p[y.dot] == x.left {
						add(i, item{y.left, y.rule, y.dot + 1, y.from})
					}
				}
				continue
			}
			part := parts[x.dot]
			if part == next {
				add(i+1, item{x.left, x.rule, x.dot + 1, x.from})
			}
			for r := range g[part] {
				add(i, item{left: part, rule: r, from: i})
			}
			for _, p := range g[part] { // what may be nothing is read at once: its end in this set may be past already
				if len(p) == 0 {
					add(i, item{x.left, x.rule, x.dot + 1, x.from})
				}
			}
		}
		if next == "END" && whole {
			return -1
		}
		if len(sets[i+1]) == 0 {
			return i
		}
	}
	return -1
}

// wantOf is what Parse must tell of a text by the grammar: the place of its first fault and its error.
func wantOf(g rules, s string) (int, api.Errno) {
	tokens, at, e := lex.Scan(s)
	if e != api.OK {
		return at, e
	}
	i := recognise(g, tokens)
	open := 0
	for n, k := range tokens {
		if n == i {
			return k.At, api.ErrText
		}
		switch k.Text {
		case "(", "[", "{":
			if open++; open > api.MaxNest {
				return k.At, api.ErrDeep
			}
		case ")", "]", "}":
			open--
		}
	}
	return 0, api.OK
}

func holdAgainstGrammar(t *testing.T, g rules, s string) {
	t.Helper()
	p, at, e := Parse(s)
	if wantAt, want := wantOf(g, s); at != wantAt || e != want {
		t.Fatalf("Parse(%q): %d at %d, want %d at %d", s, e, at, want, wantAt)
	}
	if e != api.OK && len(p.Funcs) != 0 {
		t.Fatalf("Parse(%q): a program beside an error", s)
	}
	if e == api.OK {
		wantShown(t, s, Show(p))
	}
}

// sentence makes a random text of the grammar; what is deep in it takes the shortest rules.
func sentence(g rules, r *rand.Rand, part string, depth int) []string {
	switch part {
	case "NAME":
		return []string{[]string{"a", "b1", "main", "x"}[r.IntN(4)]}
	case "NUMBER":
		return []string{[]string{"0", "7", "12", "9223372036854775807"}[r.IntN(4)]}
	case "fn'":
		return []string{"fn"}
	}
	l := g[part]
	if l == nil {
		return []string{part}
	}
	rule := l[r.IntN(len(l))]
	if depth > 12 {
		rule = l[0]
		if part == "unary" {
			rule = []string{"NAME"}
		}
		if part == "stat" {
			rule = []string{"return", ";"}
		}
	}
	var out []string
	for _, p := range rule {
		out = append(out, sentence(g, r, p, depth+1)...)
	}
	return out
}

func TestAgainstGrammar(t *testing.T) {
	g := readGrammar()
	bits := strings.Fields("fn let if else while return print true false read len int bool arr a b 0 7 ( ) { } [ ] , ; : = < > + - * / % & | ^ ! ~ == != <= >= && || << >>")
	r := rand.New(rand.NewPCG(3, 4))
	for range 3000 {
		l := sentence(g, r, "program", 0)
		if len(l) > 120 {
			continue
		}
		holdAgainstGrammar(t, g, strings.Join(l, " "))
		for range 3 {
			i := r.IntN(len(l))
			switch r.IntN(4) {
			case 0:
				l[i] = bits[r.IntN(len(bits))]
			case 1:
				l = append(l[:i], l[i+1:]...)
			case 2:
				l = append(l[:i+1], append([]string{bits[r.IntN(len(bits))]}, l[i+1:]...)...)
			case 3:
				l = l[:i+1]
			}
			if len(l) == 0 {
				break
			}
			holdAgainstGrammar(t, g, strings.Join(l, " "))
		}
	}
}

func TestDeepAgainstGrammar(t *testing.T) {
	g := readGrammar()
	r := rand.New(rand.NewPCG(5, 6))
	for range 60 {
		open := []string{"fn f() {"}
		for range 190 + r.IntN(20) {
			open = append(open, []string{"if a {", "while a {", "if a { } else {"}[r.IntN(3)])
		}
		if r.IntN(2) == 0 {
			open = append(open[:1], "x = ")
			for range 190 + r.IntN(20) {
				open = append(open, []string{"(", "a[", "f(1,", "- (", "1 + ("}[r.IntN(5)])
			}
		}
		holdAgainstGrammar(t, g, strings.Join(open, " ")+[]string{"", "(", "{", "[", "1", ")", "a[1]"}[r.IntN(7)])
	}
}

func FuzzParse(f *testing.F) {
	g := readGrammar()
	for _, s := range []string{"", "fn f( ", "fn main(): int { return 1 + 2 * 3; }", "fn f(a: arr) { let x: arr[3]; if !a { x[1] = f(2); } else { while true { print -1; } } }"} {
		f.Add(s)
	}
	f.Fuzz(func(t *testing.T, s string) {
		if len(s) < 300 || len(s) > api.MaxSource {
			holdAgainstGrammar(t, g, s)
		}
	})
}
