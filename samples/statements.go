package samples

import "slices"

// statements writes a block's; it tells whether the last one returns.
func (m *maker) statements(depth int) bool {
	first := len(m.vars)
	returns := false
	for range 1 + m.below(5) {
		if m.left <= 0 {
			break
		}
		m.left--
		returns = m.statement(depth)
		if returns && !m.slip(30) {
			break
		}
	}
	m.vars = m.vars[:first]
	return returns
}

func (m *maker) statement(depth int) bool {
	switch m.below(14) {
	case 0, 1:
		m.let()
	case 2:
		m.letArray(depth)
	case 3, 4, 5:
		m.assign()
	case 6:
		m.assignCell()
	case 7, 8:
		return depth < 4 && m.choice(depth)
	case 9:
		m.loop(depth)
	case 10:
		if depth == 0 || m.once(3) {
			return false
		}
		m.answer()
		return true
	case 11:
		m.call("any")
	default:
		m.put("print ")
		m.expr(m.pick("int int bool"), 3)
		m.put(";\n")
	}
	return false
}

func (m *maker) let() {
	kind := m.pick("int int bool")
	name := m.newName()
	m.put("let ", name, ": ", kind)
	sure := !m.once(4)
	if sure {
		m.put(" = ")
		m.expr(kind, 3)
	}
	m.put(";\n")
	m.vars = append(m.vars, variable{name: name, kind: kind, sure: sure})
}

func (m *maker) letArray(depth int) {
	if depth > 0 && !m.slip(6) {
		return
	}
	size := digits(2 + m.below(4))
	if m.slip(20) {
		size = m.pick("0 1 256 257 4294967297")
	}
	name := m.newName()
	m.put("let ", name, ": arr[", size, "];\n")
	m.vars = append(m.vars, variable{name: name, kind: "arr", sure: true})
}

// find answers the place of one of the variables that are seen and are such; -1: there is none.
func (m *maker) find(such func(v variable) bool) int {
	var l []int
	for i, v := range m.vars {
		if such(v) {
			l = append(l, i)
		}
	}
	if len(l) == 0 {
		return -1
	}
	return l[m.below(len(l))]
}

func (m *maker) assign() {
	i := m.find(func(v variable) bool { return v.kind != "arr" && !v.counter })
	if m.slip(3) {
		i = m.find(func(v variable) bool { return v.kind == "arr" })
	}
	switch {
	case m.slip(2):
		m.put("v", digits(m.below(12)), " = ")
		m.expr("int", 2)
	case i < 0:
		m.put("print 0")
	default:
		m.put(m.vars[i].name, " = ")
		m.expr(m.vars[i].kind, 3)
		m.vars[i].sure = true
	}
	m.put(";\n")
}

func (m *maker) assignCell() {
	i := m.find(func(v variable) bool { return v.kind == "arr" || m.slip(2) })
	if i < 0 {
		return
	}
	m.put(m.vars[i].name, "[")
	m.place()
	m.put("] = ")
	m.expr("int", 3)
	m.put(";\n")
}

func (m *maker) choice(depth int) bool {
	m.put("if ")
	m.expr("bool", 2)
	m.put(" {\n")
	ahead := slices.Clone(m.vars)
	first := m.statements(depth + 1)
	behindFirst := slices.Clone(m.vars)
	m.vars = ahead
	m.put("}")
	second := false
	if !m.once(3) {
		m.put(" else {\n")
		second = m.statements(depth + 1)
		m.put("}")
	}
	m.put("\n")
	for i := range m.vars {
		m.vars[i].sure = (m.vars[i].sure || second) && (behindFirst[i].sure || first)
	}
	return first && second
}

// loop writes a while, most times with a counter.
func (m *maker) loop(depth int) {
	if depth > 2 {
		return
	}
	name := m.newName()
	end := digits(1 + m.below(4))
	counts := !m.once(5)
	if counts {
		m.put("let ", name, ": int = 0;\nwhile ", name, " < ", end, " {\n")
	} else {
		m.put("let ", name, ": int = ", end, ";\nwhile ")
		m.expr("bool", 2)
		m.put(" {\n")
	}
	m.vars = append(m.vars, variable{name: name, kind: "int", sure: true, counter: counts})
	ahead := slices.Clone(m.vars)
	if m.once(2) {
		m.product(name)
	}
	returns := m.statements(depth + 1)
	m.vars = ahead
	if counts && !returns {
		m.put(name, " = ", name, " + ", m.pick("1 1 2"), ";\n")
	}
	m.put("}\n")
}

// product writes a let of a counter times a number.
func (m *maker) product(counter string) {
	name := m.newName()
	m.put("let ", name, ": int = ", counter, " * ", digits(m.below(20)), ";\n")
	m.vars = append(m.vars, variable{name: name, kind: "int", sure: true})
}

func (m *maker) answer() {
	result := m.funcs[m.fn].result
	if m.slip(10) {
		result = m.pick("int bool none")
	}
	m.put("return")
	if result != "none" {
		m.put(" ")
		m.expr(result, 3)
	}
	m.put(";\n")
}

// call writes a statement that calls a function; none, if there is none that can be called.
func (m *maker) call(result string) {
	if i := m.callable(result); i >= 0 {
		m.callOf(i, 2)
		m.put(";\n")
	}
}
