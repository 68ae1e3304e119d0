package samples

import "slices"

// expr writes an expression of a type, with so many parts in one another at most.
func (m *maker) expr(kind string, depth int) {
	if m.slip(1) {
		kind = m.pick("int bool arr")
	}
	if m.slip(1) {
		m.put("v", digits(m.below(12)))
		return
	}
	switch {
	case kind == "arr" && m.variable("arr"):
	case depth <= 0 || m.once(4):
		m.leaf(kind)
	case kind == "bool":
		m.truth(depth - 1)
	default:
		m.sum(depth - 1)
	}
}

// leaf writes an expression without parts.
func (m *maker) leaf(kind string) {
	if !m.once(4) && m.variable(kind) {
		return
	}
	if kind == "bool" {
		m.put(m.pick("true false"))
		return
	}
	m.put(m.pick("0 1 1 2 3 5 7 10 63 64 100 9223372036854775807 4611686018427387904"))
}

// variable writes one of a type that is sure; false: there is none.
func (m *maker) variable(kind string) bool {
	unsure := m.slip(20)
	i := m.find(func(v variable) bool { return v.kind == kind && v.sure != unsure })
	if i < 0 {
		return false
	}
	m.put(m.vars[i].name)
	return true
}

func (m *maker) two(sign, left, right string, depth int) {
	m.put("(")
	m.expr(left, depth)
	m.put(" ", sign, " ")
	m.expr(right, depth)
	m.put(")")
}

func (m *maker) truth(depth int) {
	switch m.below(8) {
	case 0:
		m.put("!")
		m.expr("bool", depth)
	case 1, 2:
		m.two(m.pick("&& ||"), "bool", "bool", depth)
	case 3:
		m.two(m.pick("== !="), "bool", "bool", depth)
	case 4:
		m.callOr("bool", depth)
	default:
		m.two(m.pick("< <= > >= == !="), "int", "int", depth)
	}
}

func (m *maker) sum(depth int) {
	switch m.below(14) {
	case 0:
		m.put(m.pick("- ~"))
		m.expr("int", depth)
	case 1:
		m.divided(depth)
	case 2:
		m.two(m.pick("<< >>"), "int", "int", depth)
	case 3:
		m.two(m.pick("& | ^"), "int", "int", depth)
	case 4, 5:
		m.element()
	case 6:
		m.put("read()")
	case 7, 8:
		m.callOr("int", depth)
	default:
		m.two(m.pick("+ + - *"), "int", "int", depth)
	}
}

// divided writes a division, most times by what isn't 0.
func (m *maker) divided(depth int) {
	if m.once(8) {
		m.two(m.pick("/ %"), "int", "int", depth)
		return
	}
	m.put("(")
	m.expr("int", depth)
	m.put(" ", m.pick("/ %"), " (")
	m.expr("int", depth-1)
	m.put(" | 1))")
}

// element writes a cell, or an array's length; a number, if there is no array.
func (m *maker) element() {
	i := m.find(func(v variable) bool { return v.kind == "arr" || m.slip(2) })
	switch {
	case i < 0:
		m.leaf("int")
	case m.once(4):
		m.put("len(", m.vars[i].name, ")")
	default:
		m.put(m.vars[i].name, "[")
		m.place()
		m.put("]")
	}
}

// place writes that of a cell, most times one that there is.
func (m *maker) place() {
	switch {
	case m.slip(1) || m.once(12):
		m.expr("int", 1)
	case m.once(2):
		m.put(m.pick("0 1"))
	default:
		m.expr("int", 1)
		m.put(" & 1")
	}
}

func (m *maker) callOr(result string, depth int) {
	if i := m.callable(result); i >= 0 {
		m.callOf(i, depth)
		return
	}
	m.leaf(result)
}

// callable answers a function with a result that can be called here: the arrays that it needs are seen. -1: there is none.
func (m *maker) callable(result string) int {
	var l []int
	for i, f := range m.funcs {
		needs := slices.Contains(f.params, "arr")
		has := slices.ContainsFunc(m.vars, func(v variable) bool { return v.kind == "arr" })
		ahead := i > m.fn || i == m.fn && m.again || m.once(40)
		if ahead && (has || !needs) && (result == "any" || result == f.result || m.slip(2)) {
			l = append(l, i)
		}
	}
	if len(l) == 0 {
		return -1
	}
	return l[m.below(len(l))]
}

func (m *maker) callOf(i, depth int) {
	f := m.funcs[i]
	params := f.params
	if m.slip(4) {
		params = append([]string{"int"}, params...)
	} else if len(params) > 0 && m.slip(4) {
		params = params[1:]
	}
	name := f.name
	if m.slip(2) {
		name = m.pick("v0 v1 g len1")
	}
	m.put(name, "(")
	for k, kind := range params {
		if k > 0 {
			m.put(", ")
		}
		if k == 0 && i == m.fn && m.again {
			m.put("v0 - 1")
		} else {
			m.expr(kind, depth-1)
		}
	}
	m.put(")")
}
