package rules

import (
	"cmp"
	"reflect"
	"slices"
	"testing"

	"teasel/alloc"
	"teasel/api"
	"teasel/calls"
	"teasel/code"
	"teasel/dead"
	"teasel/emit"
	"teasel/flow"
	"teasel/fold"
	"teasel/inst"
	"teasel/keep"
	"teasel/live"
	"teasel/locs"
	"teasel/lower"
	"teasel/motion"
	"teasel/moves"
	"teasel/number"
	"teasel/paint"
	"teasel/reduce"
	"teasel/samples"
	"teasel/source"
	"teasel/ssa"
	"teasel/trace"
	"teasel/tree"
	"teasel/types"
	"teasel/vet"
	"teasel/vm"
)

// arguments are what is handed in to a call.
type arguments struct {
	Prog  api.Prog
	Input []int64
	Graph [][]int
	Above []int
	Code  api.Code
	Plain api.Code
	Calls api.Code
	Loops api.Code
	Rows  api.Code
	Pairs [][2]int
	Likes [][2]int
	Moves []moves.Move
	Words []api.Word
	Debug api.Debug
	Bytes []byte // of Words
	Known []byte // of Debug
	Image api.Image
	Saved []byte // of a machine of Image
}

// machine answers what is told of one, behind some steps.
func machine(a arguments, told func(m *vm.Machine) any) (any, api.Errno) {
	m, e := vm.New(a.Image, a.Input)
	m.Run(5)
	return told(m), e
}

// asked are calls that are built, each with its answer and its error.
func asked() map[string]func(a arguments) (any, api.Errno) {
	return map[string]func(a arguments) (any, api.Errno){
		"tree.Show":     func(a arguments) (any, api.Errno) { return tree.Show(a.Prog), api.OK },
		"types.Check":   func(a arguments) (any, api.Errno) { l, _, e := types.Check(a.Prog); return l, e },
		"source.Run":    func(a arguments) (any, api.Errno) { l, e := source.Run(a.Prog, a.Input, 99); return l, e },
		"source.State":  func(a arguments) (any, api.Errno) { l, _, e := source.State(a.Prog, a.Input, 17); return l, e },
		"flow.Order":    func(a arguments) (any, api.Errno) { l, e := flow.Order(a.Graph); return l, e },
		"flow.Above":    func(a arguments) (any, api.Errno) { l, e := flow.Above(a.Graph); return l, e },
		"flow.Borders":  func(a arguments) (any, api.Errno) { l, e := flow.Borders(a.Graph); return l, e },
		"flow.Loops":    func(a arguments) (any, api.Errno) { l, e := flow.Loops(a.Graph); return l, e },
		"flow.Into":     func(a arguments) (any, api.Errno) { l, e := flow.Into(a.Graph); return l, e },
		"flow.Over":     func(a arguments) (any, api.Errno) { return flow.Over(a.Above, 0, 3), api.OK },
		"code.Check":    func(a arguments) (any, api.Errno) { return 0, code.Check(a.Code) },
		"code.Plain":    func(a arguments) (any, api.Errno) { return code.Plain(a.Code), api.OK },
		"code.Copy":     func(a arguments) (any, api.Errno) { return code.Copy(a.Code), api.OK },
		"code.Size":     func(a arguments) (any, api.Errno) { return code.Size(a.Code), api.OK },
		"code.Graph":    func(a arguments) (any, api.Errno) { return code.Graph(a.Code.Funs[0]), api.OK },
		"trace.Run":     func(a arguments) (any, api.Errno) { l, e := trace.Run(a.Code, a.Input, 300); return l, e },
		"trace.State":   func(a arguments) (any, api.Errno) { l, _, e := trace.State(a.Code, a.Input, 4, 300); return l, e },
		"lower.Program": func(a arguments) (any, api.Errno) { l, _, e := lower.Program(a.Prog); return l, e },
		"ssa.Build":     func(a arguments) (any, api.Errno) { l, e := ssa.Build(a.Code); return l, e },
		"fold.Run":      func(a arguments) (any, api.Errno) { l, e := fold.Run(a.Plain); return l, e },
		"number.Run":    func(a arguments) (any, api.Errno) { l, e := number.Run(a.Plain); return l, e },
		"dead.Run":      func(a arguments) (any, api.Errno) { l, e := dead.Run(a.Plain); return l, e },
		"calls.Run":     func(a arguments) (any, api.Errno) { l, e := calls.Run(a.Calls); return l, e },
		"motion.Run":    func(a arguments) (any, api.Errno) { l, e := motion.Run(a.Loops); return l, e },
		"reduce.Run":    func(a arguments) (any, api.Errno) { l, e := reduce.Run(a.Loops); return l, e },
		"live.Ends": func(a arguments) (any, api.Errno) {
			l, k, e := live.Ends(a.Loops, 0, true)
			return [][][]int{l, k}, e
		},
		"live.Ahead":    func(a arguments) (any, api.Errno) { l, e := live.Ahead(a.Loops, 0, true, 0, 4); return l, e },
		"live.Clashes":  func(a arguments) (any, api.Errno) { l, e := live.Clashes(a.Loops, 0, true); return l, e },
		"paint.Paint":   func(a arguments) (any, api.Errno) { l, e := paint.Paint(9, a.Pairs, a.Likes, 3); return l, e },
		"moves.Order":   func(a arguments) (any, api.Errno) { l, e := moves.Order(a.Moves, 99); return l, e },
		"moves.Circles": func(a arguments) (any, api.Errno) { return moves.Circles(a.Moves), api.OK },
		"alloc.Split":   func(a arguments) (any, api.Errno) { l, e := alloc.Split(a.Loops); return l, e },
		"alloc.Places":  func(a arguments) (any, api.Errno) { l, e := alloc.Places(a.Loops, 0, true); return l, e },
		"alloc.Recovers": func(a arguments) (any, api.Errno) {
			l, e := alloc.Recovers(a.Rows, 0, false, 0, 31)
			return l, e
		},
		"inst.Encode":       func(a arguments) (any, api.Errno) { l, e := inst.Encode(a.Words[0]); return l, e },
		"inst.Decode":       func(a arguments) (any, api.Errno) { l, _, e := inst.Decode(a.Bytes); return l, e },
		"inst.Pack":         func(a arguments) (any, api.Errno) { l, e := inst.Pack(a.Words); return l, e },
		"inst.Unpack":       func(a arguments) (any, api.Errno) { l, e := inst.Unpack(a.Bytes); return l, e },
		"locs.Form":         func(a arguments) (any, api.Errno) { return locs.Form(a.Debug), api.OK },
		"locs.Encode":       func(a arguments) (any, api.Errno) { l, e := locs.Encode(a.Debug); return l, e },
		"locs.Decode":       func(a arguments) (any, api.Errno) { l, e := locs.Decode(a.Known); return l, e },
		"vm.Status":         func(a arguments) (any, api.Errno) { return machine(a, func(m *vm.Machine) any { return m.Status() }) },
		"vm.Calls":          func(a arguments) (any, api.Errno) { return machine(a, func(m *vm.Machine) any { return m.Calls() }) },
		"vm.Heap":           func(a arguments) (any, api.Errno) { return machine(a, func(m *vm.Machine) any { return m.Heap() }) },
		"vm.Save":           func(a arguments) (any, api.Errno) { return machine(a, func(m *vm.Machine) any { return m.Save() }) },
		"vm.Load":           func(a arguments) (any, api.Errno) { m, e := vm.Load(a.Image, a.Input, a.Saved); return m.Calls(), e },
		"vet.Check":         func(a arguments) (any, api.Errno) { at, e := vet.Check(a.Image); return at, e },
		"emit.Image":        func(a arguments) (any, api.Errno) { img, e := emit.Image(a.Loops, true); return img, e },
		"emit.Passes":       func(a arguments) (any, api.Errno) { c, e := emit.Passes(a.Calls, emit.All); return c, e },
		"emit.Passes, none": func(a arguments) (any, api.Errno) { c, e := emit.Passes(a.Loops, 0); return c, e },
		"emit.Compile": func(a arguments) (any, api.Errno) {
			img, _, e := emit.Compile("fn main(): int { print read(); return 1 / read(); }", 63)
			return img, e
		},
		"keep.Put": func(a arguments) (any, api.Errno) {
			s, _ := keep.New(2)
			return 0, s.Put(7, a.Bytes, 0)
		},
		"keep.Best": func(a arguments) (any, api.Errno) {
			s, e := keep.New(2)
			s.Put(7, a.Bytes, 0)
			_, first, _ := s.Best(9)
			_, again, _ := s.Best(7)
			return [][]byte{first, again}, e
		},
		"keep.List": func(a arguments) (any, api.Errno) {
			s, e := keep.New(2)
			s.Put(7, a.Bytes, 0)
			return [][]int{s.List(), s.List()}, e
		},
	}
}

// handed answers arguments with spare room in each list.
func handed() reflect.Value {
	const text = "fn f(a: arr, n: int): int { let x: int; a[n] = read(); if n > 0 && true { x = f(a, n - 1) + a[n]; } else { x = -a[0]; } return x; } fn main(): int { let a: arr[3]; let i: int = 0; while i < 2 { print f(a, i); i = i + 1; } return len(a); }"
	p, _, _ := tree.Parse(text)
	words := []api.Word{{Op: api.MNum, A: 3, Imm: -200}, {Op: api.Add, A: 1, B: 3, C: 3}, {Op: api.MMark}, {Op: api.MRet, A: 1}}
	debug := api.Debug{
		Stops: [][]api.Spot{{{Fn: 0, Stmt: 1}}, {{Fn: 1, Stmt: 300}, {Fn: 0, Stmt: 2}}},
		Marks: []api.Mark{{Stop: 1, Locs: []api.Loc{{Var: 1, Kind: api.LNum, B: -7}, {Depth: 1, Kind: api.LReg, Arg: 3, A: 1}}}, {Stop: 0, Locs: []api.Loc{{Kind: api.LSlot, A: 1}}}},
		Sites: []api.Site{{At: 0, Mark: 1}, {At: 1000}},
	}
	bytes, _ := inst.Pack(words)
	known, _ := locs.Encode(debug)
	image := api.Image{
		Words:   []api.Word{{Op: api.MMark}, {Op: api.MAlloc, A: 1, Imm: 2}, {Op: api.MRead, A: 2}, {Op: api.MPrint, A: 2}, {Op: api.MOut, A: 1, Imm: 1}, {Op: api.MRet, A: 2}},
		Entries: []api.Entry{{Slots: 3}, {At: 5}},
	}
	image.Debug, _ = locs.Encode(api.Debug{Stops: [][]api.Spot{{{Stmt: 1}}}, Marks: []api.Mark{{}}, Sites: []api.Site{{At: 2}}})
	m, _ := vm.New(image, []int64{5})
	m.Run(5)
	return sized(reflect.ValueOf(arguments{
		Prog:  p,
		Input: []int64{5, 6, 7, 8},
		Graph: [][]int{{1, 2}, {2, 3, 1}, {1, 0}, {3, 3}, {1, 2}},
		Above: []int{-1, 0, 1, 2},
		Code:  samples.Code(29, 3, 0),
		Plain: samples.Plain(7, 40),
		Calls: samples.Calls(8, 5),
		Loops: samples.Loops(8, 20),
		Rows:  samples.Rows(3),
		Pairs: [][2]int{{0, 1}, {1, 2}, {2, 0}, {3, 3}, {4, 1}, {1, 0}},
		Likes: [][2]int{{0, 4}, {4, 8}, {1, 2}},
		Moves: []moves.Move{{To: 1, From: 2}, {To: 2, From: 1}, {To: 3, From: 1}, {To: 4, From: 4}},
		Words: words,
		Debug: debug,
		Bytes: bytes,
		Known: known,
		Image: image,
		Saved: m.Save(),
	}), roomy)
}

// TestWhatIsHandedInIsNotChanged: its spare room neither.
func TestWhatIsHandedInIsNotChanged(t *testing.T) {
	for name, call := range asked() {
		args := handed()
		before := sized(args, stretched)
		if _, e := call(args.Interface().(arguments)); e != api.OK {
			t.Errorf("%s tells the error %d", name, e)
		}
		if !reflect.DeepEqual(sized(args, stretched).Interface(), before.Interface()) {
			t.Errorf("%s changes what is handed in", name)
		}
	}
}

// TestAnswersAreNewMemory: no list of an answer, spare room too, shares any with another one of it, with an argument, or with an earlier answer.
func TestAnswersAreNewMemory(t *testing.T) {
	for name, call := range asked() {
		args := handed()
		first, _ := call(args.Interface().(arguments))
		again, _ := call(args.Interface().(arguments))
		var l []room
		for _, v := range []any{args.Interface(), first, again} {
			l = rooms(reflect.ValueOf(v), l)
		}
		slices.SortFunc(l, func(a, b room) int { return cmp.Compare(a.first, b.first) })
		for i := range l[1:] {
			if l[i].end > l[i+1].first {
				t.Errorf("two lists of %s share memory", name)
			}
		}
	}
}

// room is the memory that a list has.
type room struct {
	first uintptr
	end   uintptr
}

// rooms adds to a list the memory of all lists of a thing.
func rooms(v reflect.Value, l []room) []room {
	switch v.Kind() {
	case reflect.Struct:
		for i := range v.NumField() {
			l = rooms(v.Field(i), l)
		}
	case reflect.Slice:
		if v.Cap() > 0 {
			l = append(l, room{v.Pointer(), v.Pointer() + uintptr(v.Cap())*v.Type().Elem().Size()})
		}
		for i := range v.Len() {
			l = rooms(v.Index(i), l)
		}
	}
	return l
}

// sized answers a copy of a thing, each list of which has as many items, and as much room, as size says of it.
func sized(v reflect.Value, size func(list reflect.Value) (int, int)) reflect.Value {
	out := reflect.New(v.Type()).Elem()
	out.Set(v)
	switch v.Kind() {
	case reflect.Struct:
		for i := range v.NumField() {
			out.Field(i).Set(sized(v.Field(i), size))
		}
	case reflect.Slice:
		n, room := size(v)
		out.Set(reflect.MakeSlice(v.Type(), n, room))
		for i := range n {
			out.Index(i).Set(sized(v.Slice(0, n).Index(i), size))
		}
	}
	return out
}

func roomy(list reflect.Value) (int, int) {
	return list.Len(), list.Len() + 3
}

// stretched: a list goes on to the end of its room.
func stretched(list reflect.Value) (int, int) {
	return list.Cap(), list.Cap()
}
