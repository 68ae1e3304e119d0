// Package rules has no code of its own: its tests hold the whole project against the rules of its language.
package rules

import (
	"bytes"
	"go/ast"
	"go/format"
	"go/parser"
	"go/token"
	"os"
	"path/filepath"
	"strconv"
	"strings"
	"testing"
)

const root = ".."

type goFile struct {
	path string
	text []byte
	file *ast.File
	set  *token.FileSet
}

func (s goFile) errorf(t *testing.T, at token.Pos, what string) {
	t.Helper()
	t.Errorf("%s: %s", s.set.Position(at), what)
}

// layers are the project's packages, from below; samples, which only tests call, stands below all of them.
func layers() []string {
	return strings.Fields("api samples parts forest uses lex tree types source flow code lines loops cells trace alike lower ssa fold number dead calls motion reduce live paint moves alloc packed inst locs vm vet seen emit keep replay cursor debug shell")
}

// files: what stands in a package's folder.
func files(t *testing.T, pack string) []string {
	t.Helper()
	entries, err := os.ReadDir(filepath.Join(root, pack))
	if err != nil {
		t.Fatal(err)
	}
	var l []string
	for _, e := range entries {
		if !e.IsDir() {
			l = append(l, filepath.Join(root, pack, e.Name()))
		}
	}
	return l
}

// sources: the Go files of the program, without its tests.
func sources(t *testing.T) []goFile {
	t.Helper()
	var l []goFile
	for _, pack := range layers() {
		for _, path := range files(t, pack) {
			if strings.HasSuffix(path, ".go") && !strings.HasSuffix(path, "_test.go") {
				l = append(l, read(t, path))
			}
		}
	}
	return l
}

func read(t *testing.T, path string) goFile {
	t.Helper()
	text, err := os.ReadFile(path)
	if err != nil {
		t.Fatal(err)
	}
	set := token.NewFileSet()
	file, err := parser.ParseFile(set, path, text, parser.ParseComments)
	if err != nil {
		t.Fatal(err)
	}
	return goFile{path, text, file, set}
}

func TestModule(t *testing.T) {
	text, err := os.ReadFile(filepath.Join(root, "go.mod"))
	if err != nil {
		t.Fatal(err)
	}
	if string(text) != "module teasel\n\ngo 1.27\n" {
		t.Errorf("go.mod is %q", text)
	}
}

func TestFiles(t *testing.T) {
	for _, pack := range layers() {
		for _, path := range files(t, pack) {
			if !strings.HasSuffix(path, ".go") {
				t.Errorf("%s: a file beside the Go files", path)
			}
		}
	}
}

func TestImports(t *testing.T) {
	allowed := map[string]bool{}
	for _, p := range strings.Fields("bytes cmp container/heap errors iter maps math math/bits slices sort strconv strings sync sync/atomic unicode unicode/utf8") {
		allowed[p] = true
	}
	for _, s := range sources(t) {
		for _, i := range s.file.Imports {
			path, _ := strconv.Unquote(i.Path.Value)
			if !allowed[path] && !strings.HasPrefix(path, "teasel/") {
				s.errorf(t, i.Pos(), path+" isn't a package of the language")
			}
		}
		ast.Inspect(s.file, func(n ast.Node) bool {
			if x, ok := n.(*ast.SelectorExpr); ok {
				checkSelector(t, s, x)
			}
			return true
		})
	}
}

func checkSelector(t *testing.T, s goFile, x *ast.SelectorExpr) {
	p, ok := x.X.(*ast.Ident)
	if !ok {
		return
	}
	switch p.Name {
	case "sync":
		if !strings.Contains(" Mutex RWMutex WaitGroup Once ", " "+x.Sel.Name+" ") {
			s.errorf(t, x.Pos(), "sync."+x.Sel.Name)
		}
	case "iter":
		if strings.HasPrefix(x.Sel.Name, "Pull") {
			s.errorf(t, x.Pos(), "iter."+x.Sel.Name)
		}
	}
}

func TestLayers(t *testing.T) {
	order := map[string]int{}
	for i, p := range layers() {
		order[p] = i
	}
	for _, s := range sources(t) {
		pack := s.file.Name.Name
		for _, i := range s.file.Imports {
			path, _ := strconv.Unquote(i.Path.Value)
			below, ok := order[strings.TrimPrefix(path, "teasel/")]
			if ok && below >= order[pack] {
				s.errorf(t, i.Pos(), pack+" calls "+path+", which isn't below it")
			}
		}
	}
}

func TestLayoutAndRemarks(t *testing.T) {
	for _, s := range sources(t) {
		tidy, err := format.Source(s.text)
		if err != nil || !bytes.Equal(tidy, s.text) {
			t.Errorf("%s: not gofmt's layout", s.path)
		}
		for _, g := range s.file.Comments {
			for _, c := range g.List {
				if strings.HasPrefix(c.Text, "//go:") || strings.HasPrefix(c.Text, "// +build") || strings.HasPrefix(c.Text, "//export") {
					s.errorf(t, c.Pos(), c.Text)
				}
			}
		}
	}
}

func TestFunctionsAreShort(t *testing.T) {
	for _, s := range sources(t) {
		for _, d := range s.file.Decls {
			f, ok := d.(*ast.FuncDecl)
			if !ok {
				continue
			}
			if lines := s.set.Position(f.End()).Line - s.set.Position(f.Pos()).Line + 1; lines > 60 {
				s.errorf(t, f.Pos(), f.Name.Name+" has "+strconv.Itoa(lines)+" lines")
			}
		}
	}
}

func TestVariablesOfPackages(t *testing.T) {
	for _, s := range sources(t) {
		for _, d := range s.file.Decls {
			if f, ok := d.(*ast.FuncDecl); ok && f.Recv == nil && f.Name.Name == "init" {
				s.errorf(t, f.Pos(), "start-up code")
			}
			g, ok := d.(*ast.GenDecl)
			if !ok || g.Tok != token.VAR {
				continue
			}
			for _, x := range g.Specs {
				checkVariable(t, s, x.(*ast.ValueSpec))
			}
		}
	}
}

func checkVariable(t *testing.T, s goFile, v *ast.ValueSpec) {
	if len(v.Values) != len(v.Names) {
		s.errorf(t, v.Pos(), "a variable without a value of its own")
	}
	for _, x := range v.Values {
		if b, ok := x.(*ast.BasicLit); ok && (b.Kind == token.STRING || b.Kind == token.FLOAT) {
			s.errorf(t, x.Pos(), "a text or a float that isn't a constant")
		}
		ast.Inspect(x, func(n ast.Node) bool {
			switch y := n.(type) {
			case *ast.MapType, *ast.FuncType, *ast.FuncLit, *ast.ChanType:
				s.errorf(t, y.Pos(), "a map, a function or a channel")
			case *ast.UnaryExpr:
				if y.Op == token.AND {
					s.errorf(t, y.Pos(), "a pointer")
				}
			case *ast.CallExpr:
				if !isSelector(y.Fun, "errors", "New") {
					s.errorf(t, y.Pos(), "a value made by a call")
				}
			}
			return true
		})
	}
}

// isSelector tells whether an expression is a name of a package.
func isSelector(x ast.Expr, pack, name string) bool {
	s, ok := x.(*ast.SelectorExpr)
	if !ok {
		return false
	}
	p, ok := s.X.(*ast.Ident)
	return ok && p.Name == pack && s.Sel.Name == name
}

func TestNothingIsPrinted(t *testing.T) {
	for _, s := range sources(t) {
		ast.Inspect(s.file, func(n ast.Node) bool {
			if isCallOf(n, "print") || isCallOf(n, "println") {
				s.errorf(t, n.Pos(), "printing")
			}
			return true
		})
	}
}
