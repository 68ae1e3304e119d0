package passes

import (
	"reflect"
	"testing"

	"teasel/api"
	"teasel/code"
	. "teasel/parts"
	"teasel/samples"
)

// wantErrForm holds that code is refused, with nothing beside the error.
func (p pass) wantErrForm(t *testing.T, name string, c api.Code) {
	t.Helper()
	if d, e := p.run(c); e != api.ErrForm || !reflect.DeepEqual(d, api.Code{}) {
		t.Errorf("%s of %s: %d, %s", p.name, name, e, told(d))
	}
}

// TestCodeThatIsRefused: what isn't right, too long code, too, and what is right but not plain.
func TestCodeThatIsRefused(t *testing.T) {
	t.Parallel()
	for name, c := range WithVariables() {
		if code.Check(c) != api.OK {
			t.Error(name, "isn't right")
		}
		for _, p := range passes() {
			p.wantErrForm(t, name, c)
		}
	}
	for name, c := range Wrong() {
		if code.Check(c) == api.OK {
			t.Error(name, "is right")
		}
		for _, p := range passes() {
			p.wantErrForm(t, name, c)
		}
	}
}

// TestFaultsByChance: of code that isn't plain nothing is made, of other code something is.
func TestFaultsByChance(t *testing.T) {
	t.Parallel()
	for _, p := range passes() {
		done := 0
		for seed := range uint64(2000) {
			c := samples.Code(seed, int(seed%3), int(seed/3%4))
			if code.Plain(c) {
				p.mustRun(t, c)
				done++
			} else {
				p.wantErrForm(t, "code by chance", c)
			}
		}
		if done < 300 || done > 1700 {
			t.Error(p.name, done)
		}
	}
}

// TestInstructionsOfAnyKind: any Op, with any number of Args, and any Imm.
func TestInstructionsOfAnyKind(t *testing.T) {
	t.Parallel()
	for op := range 256 {
		for dst := -2; dst < 3; dst++ {
			for args := range 4 {
				for _, imm := range []int64{-1 << 63, -1, 0, 1, 5, 300, 1<<63 - 1} {
					x := Inst(byte(op), dst, make([]int, args)...)
					x.Imm = imm
					c := Main(Ends(Number(0, 1), x))
					c.Funs[0].Blocks[0].End = byte(op % 7)
					for _, p := range passes() {
						if code.Plain(c) {
							p.mustRun(t, c)
						} else {
							p.wantErrForm(t, "an instruction of any kind", c)
						}
					}
				}
			}
		}
	}
}

// TestMains: any function without parameters may be it; those that nobody calls stay.
func TestMains(t *testing.T) {
	t.Parallel()
	for _, p := range passes() {
		c := Program(Fun(1, Answers(0, Param(0, 0))), Fun(0, Answers(2, Number(0, 1), Number(1, 2), Inst(api.Add, 2, 0, 1), Show(2))), Fun(0, Ends(Number(0, 4), Call(2, 0, 0), Show(2), Call(-1, 1))))
		for _, c.Main = range []int{2, 1} {
			d := p.mustRun(t, c)
			holdRuns(t, p.name, c, d, nil, 99, p.all)
			if d.Main != c.Main || len(d.Funs) != 3 || d.Funs[0].Params != 1 {
				t.Errorf("%s: %s", p.name, told(d))
			}
		}
		c = api.Code{Funs: []api.Fun{{Blocks: []api.Block{Ends()}}}}
		holdRuns(t, p.name, c, p.mustRun(t, c), nil, 99, p.all)
	}
}
