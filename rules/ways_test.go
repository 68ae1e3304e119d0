package rules

import (
	"go/ast"
	"testing"
)

// find tells whether a part of a package's code is as it is asked.
func find(l []goFile, pack string, is func(n ast.Node) bool) bool {
	found := false
	for _, s := range l {
		if s.file.Name.Name != pack {
			continue
		}
		ast.Inspect(s.file, func(n ast.Node) bool {
			found = found || n != nil && is(n)
			return !found
		})
	}
	return found
}

// fieldsOf answers the name and the fields of a struct, where one is declared.
func fieldsOf(n ast.Node) (string, []*ast.Field) {
	if x, ok := n.(*ast.TypeSpec); ok {
		if s, ok := x.Type.(*ast.StructType); ok {
			return x.Name.Name, s.Fields.List
		}
	}
	return "", nil
}

func isCallOf(n ast.Node, name string) bool {
	c, ok := n.(*ast.CallExpr)
	if !ok {
		return false
	}
	f, ok := c.Fun.(*ast.Ident)
	return ok && f.Name == name
}

func inside(n ast.Node, is func(n ast.Node) bool) bool {
	found := false
	ast.Inspect(n, func(m ast.Node) bool {
		found = found || m != nil && is(m)
		return !found
	})
	return found
}

// TestWordsAreMadeReadyByAnObjectsOnce: and a reader embeds that object.
func TestWordsAreMadeReadyByAnObjectsOnce(t *testing.T) {
	l := sources(t)
	owner := ""
	find(l, "lex", func(n ast.Node) bool {
		name, fields := fieldsOf(n)
		for _, f := range fields {
			if isSelector(f.Type, "sync", "Once") {
				owner = name
			}
		}
		return owner != ""
	})
	if owner == "" {
		t.Fatal("no object of lex has a sync.Once")
	}
	if !find(l, "lex", func(n ast.Node) bool {
		_, fields := fieldsOf(n)
		for _, f := range fields {
			if id, ok := f.Type.(*ast.Ident); ok && len(f.Names) == 0 && id.Name == owner {
				return true
			}
		}
		return false
	}) {
		t.Error("nothing of lex embeds " + owner)
	}
}

// TestFacesCatchByTypeSwitch: the reader gives up by panic, the face catches that by defer, recover and a type switch.
func TestFacesCatchByTypeSwitch(t *testing.T) {
	l := sources(t)
	for pack, face := range map[string]string{"lex": "Scan", "tree": "Parse"} {
		if !find(l, pack, func(n ast.Node) bool { return isCallOf(n, "panic") }) {
			t.Error("nothing of " + pack + " gives up by panic")
		}
		if !find(l, pack, func(n ast.Node) bool {
			f, ok := n.(*ast.FuncDecl)
			return ok && f.Name.Name == face && inside(f, deferredSwitch)
		}) {
			t.Error(pack + "." + face + " doesn't catch what is given up")
		}
	}
}

func deferredSwitch(n ast.Node) bool {
	d, ok := n.(*ast.DeferStmt)
	if !ok {
		return false
	}
	lit, ok := d.Call.Fun.(*ast.FuncLit)
	return ok && inside(lit, func(m ast.Node) bool {
		s, ok := m.(*ast.TypeSwitchStmt)
		return ok && inside(s.Assign, func(k ast.Node) bool { return isCallOf(k, "recover") })
	})
}

// TestClosuresTellWhichBytesGoOn: a function literal about a byte is handed to what moves on.
func TestClosuresTellWhichBytesGoOn(t *testing.T) {
	if !find(sources(t), "lex", func(n ast.Node) bool {
		c, ok := n.(*ast.CallExpr)
		if !ok {
			return false
		}
		for _, a := range c.Args {
			if f, ok := a.(*ast.FuncLit); ok && f.Type.Results != nil && len(f.Type.Params.List) == 1 {
				id, ok := f.Type.Params.List[0].Type.(*ast.Ident)
				if ok && id.Name == "byte" {
					return true
				}
			}
		}
		return false
	}) {
		t.Error("no closure of lex tells which bytes go on")
	}
}

// TestSeenAndSureAreMapsAndDeletedFrom: of types.
func TestSeenAndSureAreMapsAndDeletedFrom(t *testing.T) {
	l := sources(t)
	for _, name := range []string{"seen", "sure"} {
		if !find(l, "types", func(n ast.Node) bool { return deletesFrom(n, name) }) {
			t.Error("nothing of types is deleted from what is " + name)
		}
	}
	if !find(l, "types", func(n ast.Node) bool { _, ok := n.(*ast.MapType); return ok }) {
		t.Error("types has no map")
	}
}

func deletesFrom(n ast.Node, field string) bool {
	if !isCallOf(n, "delete") {
		return false
	}
	s, ok := n.(*ast.CallExpr).Args[0].(*ast.SelectorExpr)
	return ok && s.Sel.Name == field
}

// TestArraysStandBehindPointers: a value of source has a pointer to a struct with a list of numbers.
func TestArraysStandBehindPointers(t *testing.T) {
	l := sources(t)
	lists := map[string]bool{}
	find(l, "source", func(n ast.Node) bool {
		name, fields := fieldsOf(n)
		for _, f := range fields {
			if a, ok := f.Type.(*ast.ArrayType); ok && a.Len == nil && len(fields) == 1 {
				lists[name] = true
			}
		}
		return false
	})
	if !find(l, "source", func(n ast.Node) bool {
		_, fields := fieldsOf(n)
		for _, f := range fields {
			if p, ok := f.Type.(*ast.StarExpr); ok {
				if id, ok := p.X.(*ast.Ident); ok && lists[id.Name] {
					return true
				}
			}
		}
		return false
	}) {
		t.Error("no value of source has an array behind a pointer")
	}
}

// TestWalksAreGoneThroughByRangeOverIntegers: of flow.
func TestWalksAreGoneThroughByRangeOverIntegers(t *testing.T) {
	if !find(sources(t), "flow", func(n ast.Node) bool {
		f, ok := n.(*ast.FuncDecl)
		return ok && inside(f.Type, func(m ast.Node) bool { return isName(m, "walk") }) && inside(f.Body, func(m ast.Node) bool {
			r, ok := m.(*ast.RangeStmt)
			return ok && (isCallOf(r.X, "len") || isName(r.X, "n"))
		})
	}) {
		t.Error("no walk of flow is gone through by range over integers")
	}
}

func isName(n ast.Node, name string) bool {
	id, ok := n.(*ast.Ident)
	return ok && id.Name == name
}

// TestWhatMeetsIsToldByAClosure: of flow.
func TestWhatMeetsIsToldByAClosure(t *testing.T) {
	if !find(sources(t), "flow", func(n ast.Node) bool {
		a, ok := n.(*ast.AssignStmt)
		if !ok || !isName(a.Lhs[0], "meet") {
			return false
		}
		_, ok = a.Rhs[0].(*ast.FuncLit)
		return ok
	}) {
		t.Error("no closure of flow tells what meets")
	}
}

// TestALoopsNodesStandInAMapThatIsGoneThrough: of flow.
func TestALoopsNodesStandInAMapThatIsGoneThrough(t *testing.T) {
	if !find(sources(t), "flow", func(n ast.Node) bool {
		f, ok := n.(*ast.FuncDecl)
		if !ok {
			return false
		}
		maps := ""
		return inside(f, func(m ast.Node) bool {
			if a, ok := m.(*ast.AssignStmt); ok && inside(a, func(k ast.Node) bool { _, is := k.(*ast.MapType); return is }) {
				maps = a.Lhs[0].(*ast.Ident).Name
			}
			r, ok := m.(*ast.RangeStmt)
			return ok && maps != "" && isName(r.X, maps)
		})
	}) {
		t.Error("no map of flow is gone through")
	}
}

// TestWaysAndReckoningsStandInMapsWhoseKeysAreCompared: those of fold by arrays, those of number by structs.
func TestWaysAndReckoningsStandInMapsWhoseKeysAreCompared(t *testing.T) {
	l := sources(t)
	if !find(l, "fold", func(n ast.Node) bool {
		return keyOf(n, "ways", func(key ast.Expr) bool {
			a, ok := key.(*ast.ArrayType)
			return ok && a.Len != nil
		})
	}) {
		t.Error("the ways of fold stand in no map by arrays")
	}
	structs := map[string]bool{}
	find(l, "number", func(n ast.Node) bool {
		name, fields := fieldsOf(n)
		structs[name] = len(fields) > 1
		return false
	})
	if !find(l, "number", func(n ast.Node) bool {
		return keyOf(n, "done", func(key ast.Expr) bool {
			id, ok := key.(*ast.Ident)
			return ok && structs[id.Name]
		})
	}) {
		t.Error("the reckonings of number stand in no map by structs")
	}
}

// keyOf tells whether a struct has a field of that name which is a map with such a key.
func keyOf(n ast.Node, field string, is func(key ast.Expr) bool) bool {
	_, fields := fieldsOf(n)
	for _, f := range fields {
		m, ok := f.Type.(*ast.MapType)
		if ok && len(f.Names) == 1 && f.Names[0].Name == field && is(m.Key) {
			return true
		}
	}
	return false
}

// TestValuesOfASetAreToldToAClosure: a method of live's sets is handed one, and function literals are handed to it.
func TestValuesOfASetAreToldToAClosure(t *testing.T) {
	l := sources(t)
	name := ""
	find(l, "live", func(n ast.Node) bool {
		f, ok := n.(*ast.FuncDecl)
		if ok && f.Recv != nil && isName(f.Recv.List[0].Type, "set") && inside(f.Type, func(m ast.Node) bool { return m != f.Type && isFunc(m) }) {
			name = f.Name.Name
		}
		return name != ""
	})
	if name == "" {
		t.Fatal("no set of live is handed what its values are told to")
	}
	if !find(l, "live", func(n ast.Node) bool {
		c, ok := n.(*ast.CallExpr)
		if !ok {
			return false
		}
		s, ok := c.Fun.(*ast.SelectorExpr)
		return ok && s.Sel.Name == name && inside(c, func(m ast.Node) bool { _, is := m.(*ast.FuncLit); return is })
	}) {
		t.Error("the values of live's sets aren't told to a closure")
	}
}

func isFunc(n ast.Node) bool {
	_, is := n.(*ast.FuncType)
	return is
}

// TestListsOfAnyTypeAreGoneThroughByOneGenericFunction: packed's, by which inst's and locs's are gone through; its faults are asked by errors.Is.
func TestListsOfAnyTypeAreGoneThroughByOneGenericFunction(t *testing.T) {
	l := sources(t)
	var generic []string
	for _, pack := range []string{"inst", "locs", "packed"} {
		find(l, pack, func(n ast.Node) bool {
			if f, ok := n.(*ast.FuncDecl); ok && f.Type.TypeParams != nil {
				generic = append(generic, pack+"."+f.Name.Name)
			}
			return false
		})
	}
	if len(generic) != 1 || generic[0] != "packed.Each" {
		t.Error("the generic functions are", generic)
	}
	for _, pack := range []string{"inst", "locs"} {
		if !find(l, pack, func(n ast.Node) bool { c, ok := n.(*ast.CallExpr); return ok && isSelector(c.Fun, "packed", "Each") }) {
			t.Error("the lists of " + pack + " aren't gone through by it")
		}
		if !find(l, pack, func(n ast.Node) bool { c, ok := n.(*ast.CallExpr); return ok && isSelector(c.Fun, "packed", "Errno") }) {
			t.Error("nobody asks the faults of " + pack)
		}
	}
	if !find(l, "packed", func(n ast.Node) bool {
		f, ok := n.(*ast.FuncDecl)
		return ok && f.Name.Name == "Errno" && inside(f, func(m ast.Node) bool { c, ok := m.(*ast.CallExpr); return ok && isSelector(c.Fun, "errors", "Is") })
	}) {
		t.Error("faults aren't asked by errors.Is")
	}
}

// TestNumbersAreWrittenAndReadByMethodValues: of inst and locs, a walk's functions are those of a writer, or of a reader.
func TestNumbersAreWrittenAndReadByMethodValues(t *testing.T) {
	l := sources(t)
	for pack, number := range map[string]string{"inst": "unsigned", "locs": "number"} {
		for _, hand := range []string{"writer", "reader"} {
			if !find(l, pack, func(n ast.Node) bool {
				f, ok := n.(*ast.FuncDecl)
				if !ok || f.Recv == nil || !inside(f.Recv, func(m ast.Node) bool { return isName(m, hand) }) {
					return false
				}
				return inside(f.Body, func(m ast.Node) bool {
					kv, ok := m.(*ast.KeyValueExpr)
					return ok && isName(kv.Key, number) && isSelector(kv.Value, f.Recv.List[0].Names[0].Name, number)
				})
			}) {
				t.Error("the numbers of " + pack + " aren't those of a " + hand + "'s method value")
			}
		}
	}
}

// TestStepsAreCountedByAnAtomicCounter: of vm's machine.
func TestStepsAreCountedByAnAtomicCounter(t *testing.T) {
	l := sources(t)
	counter := ""
	find(l, "vm", func(n ast.Node) bool {
		name, fields := fieldsOf(n)
		for _, f := range fields {
			if name == "Machine" && isSelector(f.Type, "atomic", "Int64") {
				counter = f.Names[0].Name
			}
		}
		return counter != ""
	})
	if counter == "" {
		t.Fatal("a machine has no atomic counter")
	}
	if !find(l, "vm", func(n ast.Node) bool {
		c, ok := n.(*ast.CallExpr)
		if !ok {
			return false
		}
		add, ok := c.Fun.(*ast.SelectorExpr)
		return ok && add.Sel.Name == "Add" && inside(add.X, func(m ast.Node) bool { return isName(m, counter) })
	}) {
		t.Error("nothing counts by it")
	}
}

// TestRegistersAreAnArrayThatIsCutToAList: those of vm's calls.
func TestRegistersAreAnArrayThatIsCutToAList(t *testing.T) {
	l := sources(t)
	array := ""
	find(l, "vm", func(n ast.Node) bool {
		_, fields := fieldsOf(n)
		for _, f := range fields {
			if a, ok := f.Type.(*ast.ArrayType); ok && a.Len != nil && isSelector(a.Len, "api", "Regs") {
				array = f.Names[0].Name
			}
		}
		return array != ""
	})
	if array == "" {
		t.Fatal("the registers of vm are no array")
	}
	if !find(l, "vm", func(n ast.Node) bool {
		s, ok := n.(*ast.SliceExpr)
		if !ok {
			return false
		}
		x, ok := s.X.(*ast.SelectorExpr)
		return ok && x.Sel.Name == array
	}) {
		t.Error("the registers of vm aren't cut to a list")
	}
}

// TestPassesAreAListOfFunctionsInFields: a struct of emit has a function from code to code, and a list of such structs is made by a function.
func TestPassesAreAListOfFunctionsInFields(t *testing.T) {
	l := sources(t)
	owner := ""
	find(l, "emit", func(n ast.Node) bool {
		name, fields := fieldsOf(n)
		for _, f := range fields {
			if isFunc(f.Type) && inside(f.Type, func(m ast.Node) bool { x, ok := m.(ast.Expr); return ok && isSelector(x, "api", "Code") }) {
				owner = name
			}
		}
		return owner != ""
	})
	if owner == "" {
		t.Fatal("no field of emit has a pass")
	}
	if !find(l, "emit", func(n ast.Node) bool {
		x, ok := n.(*ast.CompositeLit)
		if !ok || len(x.Elts) < 6 {
			return false
		}
		a, ok := x.Type.(*ast.ArrayType)
		return ok && isName(a.Elt, owner) && inside(x, func(m ast.Node) bool { y, ok := m.(ast.Expr); return ok && isSelector(y, "motion", "Run") })
	}) {
		t.Error("the passes are no list of these")
	}
}
