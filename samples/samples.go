// Package samples makes programs' texts, and code between, from numbers, for tests: one number always makes the same.
package samples

import "strings"

// Text answers the text of a program. The more faults, the more often it breaks a rule of the types (some 10 do so in every other text); with 0 it is right. Most runs of it end by themselves.
func Text(seed uint64, faults int) string {
	m := maker{dice: dice{state: seed}, faults: faults}
	m.program()
	return m.text.String()
}

// dice are numbers one can't foretell, from one that is given (those of splitmix64).
type dice struct {
	state uint64
}

// below answers a number from 0 to n - 1.
func (d *dice) below(n int) int {
	d.state += 0x9e3779b97f4a7c15
	z := d.state
	z = (z ^ z>>30) * 0xbf58476d1ce4e5b9
	z = (z ^ z>>27) * 0x94d049bb133111eb
	return int((z ^ z>>31) % uint64(n))
}

// once in n times it is so.
func (d *dice) once(n int) bool {
	return d.below(n) == 0
}

// pick answers one of some texts.
func (d *dice) pick(list string) string {
	l := strings.Fields(list)
	return l[d.below(len(l))]
}

// maker writes a program. In vars are the variables that are seen, in funcs the functions; those call only later ones, most times.
type maker struct {
	dice
	faults int
	text   strings.Builder
	funcs  []face
	fn     int
	vars   []variable
	names  int
	left   int
	again  bool
}

// face is what is seen of a function from outside.
type face struct {
	name   string
	params []string
	result string
}

// variable is one that is seen; a counter is set by its loop alone.
type variable struct {
	name    string
	kind    string
	sure    bool
	counter bool
}

// slip tells whether a rule is to be broken here; the rarer such a place is, the greater its weight.
func (m *maker) slip(weight int) bool {
	return m.faults > 0 && m.below(1000) < m.faults*weight
}

func (m *maker) put(texts ...string) {
	for _, t := range texts {
		m.text.WriteString(t)
	}
}

func (m *maker) program() {
	m.funcs = []face{m.mainFace()}
	for range m.below(4) {
		m.funcs = append(m.funcs, m.face())
	}
	first := m.below(len(m.funcs))
	for i := range m.funcs {
		m.function((first + i) % len(m.funcs))
	}
}

func (m *maker) mainFace() face {
	f := face{name: "main", result: "int"}
	if m.slip(3) {
		f.name = "mane"
	}
	if m.slip(3) {
		f.params = []string{"int"}
	}
	if m.slip(3) {
		f.result = m.pick("bool none")
	}
	return f
}

func (m *maker) face() face {
	f := face{name: "f" + digits(len(m.funcs)), result: m.pick("int int bool none")}
	for range m.below(4) {
		f.params = append(f.params, m.pick("int int bool arr"))
	}
	if m.slip(4) {
		f.name = m.funcs[m.below(len(m.funcs))].name
	}
	if m.slip(4) {
		f.params = []string{"int", "arr", "int", "int", "bool", "int", "int"}
	}
	return f
}

func digits(n int) string {
	if n < 10 {
		return string(rune('0' + n))
	}
	return digits(n/10) + digits(n%10)
}

func (m *maker) function(i int) {
	f := m.funcs[i]
	m.fn, m.vars, m.names, m.left, m.again = i, nil, 0, 4+m.below(8), false
	m.put("fn ", f.name, "(")
	for k, kind := range f.params {
		if k > 0 {
			m.put(", ")
		}
		name := m.newName()
		m.vars = append(m.vars, variable{name: name, kind: kind, sure: true})
		m.put(name, ": ", kind)
	}
	m.put(")")
	if f.result != "none" {
		m.put(": ", f.result)
	}
	m.put(" {\n")
	m.recursion(f)
	if !m.statements(0) && f.result != "none" && !m.slip(6) {
		m.answer()
	}
	m.put("}\n")
}

// newName answers a name that the function has not had.
func (m *maker) newName() string {
	if m.names > 0 && m.slip(2) {
		return "v" + digits(m.below(m.names))
	}
	m.names++
	return "v" + digits(m.names-1)
}

// recursion lets a function call itself, where its first parameter counts down.
func (m *maker) recursion(f face) {
	if f.result == "int" && len(f.params) > 0 && f.params[0] == "int" && m.vars[0].name == "v0" && m.once(3) {
		m.put("if v0 < 1 {\n")
		m.answer()
		m.put("}\n")
		m.again, m.vars[0].counter = true, true
	}
}
