package emit_test

import (
	"math/rand/v2"
	"slices"
	"strconv"
	"strings"
	"testing"

	"teasel/api"
	"teasel/emit"
	"teasel/seen"
	"teasel/vm"
)

// counting writes programs of a loop that begins with let t: int = i * C and ends with i = i + K, and has between lets, assignments, prints and ifs of these.
type counting struct {
	*rand.Rand
	vars []string // those that may be asked for
	sets []string // those that may be set
	lets int
}

func (g *counting) pick(l string) string {
	words := strings.Fields(l)
	return words[g.IntN(len(words))]
}

func (g *counting) number() string {
	return g.pick("0 1 2 3 4 5 7 8 12 100 4611686018427387904 9223372036854775807")
}

func (g *counting) expr(depth int) string {
	if depth == 0 || g.IntN(3) == 0 {
		if g.IntN(2) == 0 {
			return g.number()
		}
		return g.vars[g.IntN(len(g.vars))]
	}
	switch g.IntN(10) {
	case 0:
		return "-" + g.expr(depth-1)
	case 1:
		return "(" + g.expr(depth-1) + " / (" + g.expr(depth-1) + " | 1))"
	case 2:
		return "(i + " + g.number() + ")"
	case 3:
		return g.pick("i t") + " * " + g.number()
	case 4:
		return "(" + g.expr(depth-1) + " << " + g.number() + ")"
	}
	return "(" + g.expr(depth-1) + " " + g.pick("+ - * & ^") + " " + g.expr(depth-1) + ")"
}

func (g *counting) body(depth int) string {
	s := ""
	vars, sets := len(g.vars), len(g.sets)
	for range 1 + g.IntN(4) {
		switch g.IntN(5) {
		case 0:
			if g.lets < 5 {
				name := "v" + strconv.Itoa(g.lets)
				s += "let " + name + ": int = " + g.expr(2) + "; "
				g.lets++
				g.vars, g.sets = append(g.vars, name), append(g.sets, name)
			}
		case 1:
			s += g.sets[g.IntN(len(g.sets))] + " = " + g.expr(2) + "; "
		case 2:
			if depth > 0 {
				s += "if " + g.expr(1) + " " + g.pick("< == >= !=") + " " + g.expr(1) + " { " + g.body(depth-1) + "} "
			}
		case 3:
			if depth > 0 {
				s += "if " + g.expr(1) + " < " + g.expr(1) + " { " + g.body(depth-1) + "} else { " + g.body(depth-1) + "} "
			}
		default:
			s += "print " + g.expr(2) + "; "
		}
	}
	g.vars, g.sets = g.vars[:vars], g.sets[:sets]
	return s
}

// counted answers such a program, in a loop mostly, in which t has the number 2, or 3.
func counted(seed uint64) (string, int) {
	g := &counting{Rand: rand.New(rand.NewPCG(seed, 1)), vars: []string{"a", "i"}, sets: []string{"a"}}
	s := "fn main(): int { let a: int = read(); let i: int = " + g.pick("0 1 read() a 3-a") + "; "
	t, tail := 2, "} "
	if g.IntN(3) == 0 {
		s += "let j: int = 0; while j < 3 { i = j; "
		t, tail = 3, "} j = j + 1; } "
		g.vars = append(g.vars, "j")
	}
	s += "while i < " + g.pick("5 a a+3 10 i+1 i*3 read() 9223372036854775807 a*2-i") + " { let t: int = i * " + g.number() + "; "
	g.vars = append(g.vars, "t")
	s += g.body(2) + "i = i + " + g.number() + "; " + tail
	if g.IntN(2) == 0 {
		s += "print i; "
	}
	return s + "return a; }", t
}

// TestCountersAreShown: with all passes i and t are shown wherever t is sure, whatever is made of them.
func TestCountersAreShown(t *testing.T) {
	t.Parallel()
	marks := 0
	for seed := range uint64(2500) {
		s, product := counted(seed)
		w := newTwin(t, s, emit.All)
		input := []int64{int64(seed%7) + 1, 4, 5, 6, 7, 8, 9, 3, 2}
		w.hold(t, input, 60)
		m, _ := vm.New(w.img, input)
		for range 100 {
			if !m.ToMark(100000) {
				break
			}
			f := seen.Frames(w.img, w.debug, m.Calls())[0]
			if !slices.Contains(w.info.Points[f.Stmt].Sure, product) {
				continue
			}
			marks++
			for _, v := range []int{1, product} {
				if !slices.ContainsFunc(f.Vars, func(x api.Shown) bool { return x.Var == v }) {
					t.Fatalf("the variable %d isn't shown at the statement %d of\n%s", v, f.Stmt, s)
				}
			}
		}
	}
	if marks < 50000 {
		t.Error(marks)
	}
}
