package rules

import (
	"reflect"
	"testing"

	"teasel/api"
	"teasel/code"
	"teasel/flow"
	"teasel/samples"
	"teasel/source"
	"teasel/tree"
	"teasel/types"
)

// arguments are what is handed in to a call.
type arguments struct {
	Prog  api.Prog
	Input []int64
	Graph [][]int
	Above []int
	Code  api.Code
}

// TestWhatIsHandedInIsNotChanged: its spare room neither.
func TestWhatIsHandedInIsNotChanged(t *testing.T) {
	const text = "fn f(a: arr, n: int): int { let x: int; a[n] = read(); if n > 0 { x = f(a, n - 1) + a[n]; } else { x = -a[0]; } return x; } fn main(): int { let a: arr[3]; let i: int = 0; while i < 2 { print f(a, i); i = i + 1; } return len(a); }"
	p, _, _ := tree.Parse(text)
	for name, call := range map[string]func(a arguments) api.Errno{
		"tree.Show":    func(a arguments) api.Errno { tree.Show(a.Prog); return api.OK },
		"types.Check":  func(a arguments) api.Errno { _, _, e := types.Check(a.Prog); return e },
		"source.Run":   func(a arguments) api.Errno { _, e := source.Run(a.Prog, a.Input, 99); return e },
		"source.State": func(a arguments) api.Errno { _, _, e := source.State(a.Prog, a.Input, 17); return e },
		"flow.Order":   func(a arguments) api.Errno { _, e := flow.Order(a.Graph); return e },
		"flow.Above":   func(a arguments) api.Errno { _, e := flow.Above(a.Graph); return e },
		"flow.Borders": func(a arguments) api.Errno { _, e := flow.Borders(a.Graph); return e },
		"flow.Loops":   func(a arguments) api.Errno { _, e := flow.Loops(a.Graph); return e },
		"flow.Into":    func(a arguments) api.Errno { _, e := flow.Into(a.Graph); return e },
		"flow.Over":    func(a arguments) api.Errno { flow.Over(a.Above, 0, 3); return api.OK },
		"code.Check":   func(a arguments) api.Errno { return code.Check(a.Code) },
		"code.Plain":   func(a arguments) api.Errno { code.Plain(a.Code); return api.OK },
		"code.Copy":    func(a arguments) api.Errno { code.Copy(a.Code); return api.OK },
		"code.Size":    func(a arguments) api.Errno { code.Size(a.Code); return api.OK },
		"code.Graph":   func(a arguments) api.Errno { code.Graph(a.Code.Funs[0]); return api.OK },
	} {
		args := sized(reflect.ValueOf(arguments{
			Prog:  p,
			Input: []int64{5, 6, 7, 8},
			Graph: [][]int{{1, 2}, {2, 3, 1}, {1, 0}, {3, 3}, {1, 2}},
			Above: []int{-1, 0, 1, 2},
			Code:  samples.Code(6, 3, 0),
		}), roomy)
		before := sized(args, stretched)
		if e := call(args.Interface().(arguments)); e != api.OK {
			t.Errorf("%s tells the error %d", name, e)
		}
		if !reflect.DeepEqual(sized(args, stretched).Interface(), before.Interface()) {
			t.Errorf("%s changes what is handed in", name)
		}
	}
}

// sized answers a copy of a thing, each list of which has as many items, and as much room, as size says of it.
func sized(v reflect.Value, size func(list reflect.Value) (int, int)) reflect.Value {
	out := reflect.New(v.Type()).Elem()
	out.Set(v)
	switch v.Kind() {
	case reflect.Struct:
		for i := range v.NumField() {
			out.Field(i).Set(sized(v.Field(i), size))
		}
	case reflect.Slice:
		n, room := size(v)
		out.Set(reflect.MakeSlice(v.Type(), n, room))
		for i := range n {
			out.Index(i).Set(sized(v.Slice(0, n).Index(i), size))
		}
	}
	return out
}

func roomy(list reflect.Value) (int, int) {
	return list.Len(), list.Len() + 3
}

// stretched: a list goes on to the end of its room.
func stretched(list reflect.Value) (int, int) {
	return list.Cap(), list.Cap()
}
