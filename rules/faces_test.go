package rules

import (
	"testing"

	"teasel/alloc"
	"teasel/api"
	"teasel/calls"
	"teasel/code"
	"teasel/cursor"
	"teasel/dead"
	"teasel/debug"
	"teasel/emit"
	"teasel/flow"
	"teasel/fold"
	"teasel/inst"
	"teasel/keep"
	"teasel/lex"
	"teasel/live"
	"teasel/locs"
	"teasel/lower"
	"teasel/motion"
	"teasel/moves"
	"teasel/number"
	"teasel/paint"
	"teasel/reduce"
	"teasel/replay"
	"teasel/shell"
	"teasel/source"
	"teasel/ssa"
	"teasel/trace"
	"teasel/tree"
	"teasel/types"
	"teasel/vet"
	"teasel/vm"
)

// The chapters' calls and types stand here as they list them: where one is another, this doesn't compile.

func faceLex() {
	var _ func(s string) ([]api.Token, int, api.Errno) = lex.Scan
	var _ func(s string) bool = lex.Word
}

func faceTree() {
	var _ func(s string) (api.Prog, int, api.Errno) = tree.Parse
	var _ func(p api.Prog) string = tree.Show
	var _ func(op byte) (string, int) = tree.Signs
	var _ func(kind byte) string = tree.Name
}

func faceTypes() {
	var _ func(p api.Prog) (api.Info, int, api.Errno) = types.Check
}

func faceSource() {
	var _ func(p api.Prog, input []int64, fuel int) (source.Result, api.Errno) = source.Run
	var _ func(p api.Prog, input []int64, k int) ([]api.Frame, int, api.Errno) = source.State
	var _ func(op byte, a, b int64) (int64, byte) = source.Value
	_ = struct {
		End     byte
		Exit    int64
		Outs    []int64
		Entries int
		Stmt    int
		Calls   int
		Cells   int
	}(source.Result{})
}

func faceFlow() {
	var _ func(g [][]int) ([]int, api.Errno) = flow.Order
	var _ func(g [][]int) ([]int, api.Errno) = flow.Above
	var _ func(g [][]int) ([][]int, api.Errno) = flow.Borders
	var _ func(g [][]int) ([]flow.Loop, api.Errno) = flow.Loops
	var _ func(g [][]int) ([][]int, api.Errno) = flow.Into
	var _ func(above []int, a, b int) bool = flow.Over
	_ = struct {
		Head  int
		Nodes []int
	}(flow.Loop{})
}

func faceCode() {
	var _ func(c api.Code) api.Errno = code.Check
	var _ func(c api.Code) bool = code.Plain
	var _ func(c api.Code) api.Code = code.Copy
	var _ func(c api.Code) int = code.Size
	var _ func(f api.Fun) [][]int = code.Graph
	var _ func(op byte) (int, bool, bool) = code.Shape
	var _ func(op byte) bool = code.Pure
	var _ func(op byte) bool = code.Traps
}

func faceTrace() {
	var _ func(c api.Code, input []int64, fuel int) (trace.Result, api.Errno) = trace.Run
	var _ func(c api.Code, input []int64, k int, fuel int) ([]api.Frame, int, api.Errno) = trace.State
	_ = struct {
		End   byte
		Exit  int64
		Outs  []int64
		Marks int
		Stop  int
		Steps int
		Calls int
	}(trace.Result{})
}

func faceLower() {
	var _ func(p api.Prog) (api.Code, int, api.Errno) = lower.Program
}

func faceSsa() {
	var _ func(c api.Code) (api.Code, api.Errno) = ssa.Build
}

func faceFold() {
	var _ func(c api.Code) (api.Code, api.Errno) = fold.Run
}

func faceNumber() {
	var _ func(c api.Code) (api.Code, api.Errno) = number.Run
}

func faceDead() {
	var _ func(c api.Code) (api.Code, api.Errno) = dead.Run
}

func faceCalls() {
	var _ func(c api.Code) (api.Code, api.Errno) = calls.Run
}

func faceMotion() {
	var _ func(c api.Code) (api.Code, api.Errno) = motion.Run
}

func faceReduce() {
	var _ func(c api.Code) (api.Code, api.Errno) = reduce.Run
}

func faceLive() {
	var _ func(c api.Code, fn int, all bool) ([][]int, [][]int, api.Errno) = live.Ends
	var _ func(c api.Code, fn int, all bool, block, at int) ([]int, api.Errno) = live.Ahead
	var _ func(c api.Code, fn int, all bool) ([][2]int, api.Errno) = live.Clashes
}

func facePaint() {
	var _ func(n int, pairs [][2]int, likes [][2]int, k int) ([]int, api.Errno) = paint.Paint
}

func faceMoves() {
	var _ func(list []moves.Move, spare int) ([]moves.Move, api.Errno) = moves.Order
	var _ func(list []moves.Move) int = moves.Circles
	_ = struct {
		To   int
		From int
	}(moves.Move{})
}

func faceAlloc() {
	var _ func(c api.Code) (api.Code, api.Errno) = alloc.Split
	var _ func(c api.Code, fn int, all bool) ([]alloc.Place, api.Errno) = alloc.Places
	var _ func(c api.Code, fn int, all bool, block, at int) ([]api.Dbg, api.Errno) = alloc.Recovers
	_ = struct {
		Kind byte
		N    int
	}(alloc.Place{})
}

func faceInst() {
	var _ func(w api.Word) bool = inst.Form
	var _ func(w api.Word) ([]byte, api.Errno) = inst.Encode
	var _ func(p []byte) (api.Word, int, api.Errno) = inst.Decode
	var _ func(l []api.Word) ([]byte, api.Errno) = inst.Pack
	var _ func(p []byte) ([]api.Word, api.Errno) = inst.Unpack
	var _ func(op byte) bool = inst.Traps
}

func faceLocs() {
	var _ func(d api.Debug) bool = locs.Form
	var _ func(d api.Debug) ([]byte, api.Errno) = locs.Encode
	var _ func(p []byte) (api.Debug, api.Errno) = locs.Decode
}

func faceVm() {
	var _ func(img api.Image, input []int64) (*vm.Machine, api.Errno) = vm.New
	var _ func(m *vm.Machine, steps int) int = (*vm.Machine).Run
	var _ func(m *vm.Machine, steps int) bool = (*vm.Machine).ToMark
	var _ func(m *vm.Machine) vm.Status = (*vm.Machine).Status
	var _ func(m *vm.Machine) []vm.Call = (*vm.Machine).Calls
	var _ func(m *vm.Machine) []int64 = (*vm.Machine).Heap
	var _ func(m *vm.Machine) []byte = (*vm.Machine).Save
	var _ func(img api.Image, input []int64, p []byte) (*vm.Machine, api.Errno) = vm.Load
	_ = struct {
		End   byte
		Exit  int64
		Outs  []int64
		Read  int
		Steps int
		Marks int
		At    int
	}(vm.Status{})
	_ = struct {
		Fn    int
		At    int
		Regs  []int64
		Slots []int64
	}(vm.Call{})
}

func faceVet() {
	var _ func(img api.Image) (int, api.Errno) = vet.Check
}

func faceEmit() {
	var _ func(c api.Code, all bool) (api.Image, api.Errno) = emit.Image
	var _ func(c api.Code, opt byte) (api.Code, api.Errno) = emit.Passes
	var _ func(s string, opt byte) (api.Image, int, api.Errno) = emit.Compile
}

func faceKeep() {
	var _ func(most int) (*keep.Store, api.Errno) = keep.New
	var _ func(s *keep.Store, at int, p []byte, choice int) api.Errno = (*keep.Store).Put
	var _ func(s *keep.Store, at int) (int, []byte, bool) = (*keep.Store).Best
	var _ func(s *keep.Store, at int) api.Errno = (*keep.Store).Drop
	var _ func(s *keep.Store) []int = (*keep.Store).List
	var _ func(s *keep.Store) int = (*keep.Store).Bytes
}

func faceReplay() {
	var _ func(img api.Image, input []int64, every, most, fuel int, choices []int) (*replay.Player, api.Errno) = replay.New
	var _ func(p *replay.Player, k int) bool = (*replay.Player).Go
	var _ func(p *replay.Player) int = (*replay.Player).At
	var _ func(p *replay.Player) bool = (*replay.Player).Over
	var _ func(p *replay.Player) int = (*replay.Player).Work
	var _ func(p *replay.Player) []int = (*replay.Player).Kept
	var _ func(p *replay.Player, k int) api.Errno = (*replay.Player).Drop
	var _ func(p *replay.Player) vm.Status = (*replay.Player).Status
	var _ func(p *replay.Player) []vm.Call = (*replay.Player).Calls
	var _ func(p *replay.Player) []int64 = (*replay.Player).Heap
	var _ func(p *replay.Player) []byte = (*replay.Player).Save
}

func faceCursor() {
	var _ func(p api.Prog, input []int64, most int) (*cursor.Cursor, api.Errno) = cursor.Open
	var _ func(c *cursor.Cursor, x cursor.Command) cursor.Reply = (*cursor.Cursor).Do
	var _ func(info api.Info, stmt int, name string) (int, bool) = cursor.Variable
	var _ func(info api.Info) int = cursor.Lines
	_ = struct {
		Kind byte
		N    int
		Name string
	}(cursor.Command{})
	_ = struct {
		E     api.Errno
		Over  bool
		End   byte
		Exit  int64
		Fn    int
		Stmt  int
		Depth int
		Outs  int
		Spots []api.Spot
		Var   api.Shown
	}(cursor.Reply{})
}

func faceDebug() {
	var _ func(s string, input []int64, o debug.Options) (*debug.Session, int, api.Errno) = debug.Open
	var _ func(s *debug.Session, x cursor.Command) cursor.Reply = (*debug.Session).Do
	var _ func(s *debug.Session) int = (*debug.Session).At
	var _ func(s *debug.Session) []byte = (*debug.Session).Save
	var _ func(s *debug.Session) []int = (*debug.Session).Kept
	var _ func(s *debug.Session) int = (*debug.Session).Work
	_ = struct {
		Opt     byte
		Every   int
		Keep    int
		Most    int
		Fuel    int
		Choices []int
	}(debug.Options{})
}

func faceShell() {
	var _ func(text string, opt byte, input []int64, script string) (string, int, api.Errno) = shell.Run
	var _ func(info api.Info, fn int, v api.Shown) string = shell.Shown
	var _ func(line string) (cursor.Command, api.Errno) = shell.Parse
}

func TestFaces(t *testing.T) {
	faceLex()
	faceTree()
	faceTypes()
	faceSource()
	faceFlow()
	faceCode()
	faceTrace()
	faceLower()
	faceSsa()
	faceFold()
	faceNumber()
	faceDead()
	faceCalls()
	faceMotion()
	faceReduce()
	faceLive()
	facePaint()
	faceMoves()
	faceAlloc()
	faceInst()
	faceLocs()
	faceVm()
	faceVet()
	faceEmit()
	faceKeep()
	faceReplay()
	faceCursor()
	faceDebug()
	faceShell()
	for name, pair := range map[string][2]int{
		"source.MaxEntries": {source.MaxEntries, 20000},
		"cursor.MaxPlaces":  {cursor.MaxPlaces, 2000},
		"emit.All":          {emit.All, 63},
		"alloc.Nowhere":     {alloc.Nowhere, 0},
		"alloc.Register":    {alloc.Register, 1},
		"alloc.Slot":        {alloc.Slot, 2},
		"alloc.Spare":       {alloc.Spare, 3},
	} {
		if pair[0] != pair[1] {
			t.Errorf("%s is %d, must be %d", name, pair[0], pair[1])
		}
	}
	kinds := []byte{cursor.Break, cursor.Clear, cursor.Step, cursor.Next, cursor.Finish, cursor.Run, cursor.BackStep, cursor.BackNext, cursor.BackFinish, cursor.BackRun, cursor.Print, cursor.Frames, cursor.Where}
	for i, k := range kinds {
		if int(k) != i+1 {
			t.Errorf("the command %d is %d", i+1, k)
		}
	}
}
