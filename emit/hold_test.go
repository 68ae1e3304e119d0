package emit_test

import (
	"fmt"
	"slices"
	"strconv"
	"testing"

	"teasel/alloc"
	"teasel/api"
	"teasel/code"
	"teasel/emit"
	"teasel/locs"
	"teasel/seen"
	"teasel/trace"
	"teasel/vet"
	"teasel/vm"
)

// told is a thing as text, not too long.
func told(x any) string {
	s := fmt.Sprintf("%+v", x)
	return s[:min(len(s), 6000)]
}

// mustImage answers the image of code, which is sound.
func mustImage(t *testing.T, c api.Code, all bool) api.Image {
	t.Helper()
	img, e := emit.Image(c, all)
	if e != api.OK {
		t.Fatalf("%d, of\n%s", e, told(c))
	}
	wantSound(t, c, img)
	return img
}

func wantSound(t *testing.T, c api.Code, img api.Image) {
	t.Helper()
	if at, e := vet.Check(img); e != api.OK {
		t.Fatalf("an image that isn't sound at %d by %d, of\n%s", at, e, told(c))
	}
	if len(img.Entries) != len(c.Funs) || img.Main != c.Main {
		t.Fatalf("%d entries, Main %d, of\n%s", len(img.Entries), img.Main, told(c))
	}
}

// recovered answers code in which marks and calls know just what alloc.Recovers tells of it without all.
func recovered(c api.Code) api.Code {
	out := code.Copy(c)
	for fn, f := range out.Funs {
		for b, block := range f.Blocks {
			for at, x := range block.Insts {
				if x.Op == api.IMark || x.Op == api.ICall {
					block.Insts[at].Dbg, _ = alloc.Recovers(c, fn, false, b, at)
				}
			}
		}
	}
	return out
}

// enough answers how many steps of the machine are enough for so many of a run of code.
func enough(c api.Code, steps int) int {
	n := code.Size(c) + 10
	for _, f := range c.Funs {
		n += len(f.Blocks)
	}
	return (steps + 1) * 16 * n
}

// holder holds what an image does against what its code does, of which least knows what must be shown.
type holder struct {
	c     api.Code
	least api.Code
	img   api.Image
	debug api.Debug
}

func newHolder(t *testing.T, c api.Code, all bool) holder {
	t.Helper()
	return holderOf(c, mustImage(t, c, all), all)
}

// holderOf holds an image that code has with all, or without.
func holderOf(c api.Code, img api.Image, all bool) holder {
	h := holder{c: c, least: c, img: img}
	if !all {
		h.least = recovered(c)
	}
	h.debug, _ = locs.Decode(img.Debug)
	return h
}

// run answers how a run of the code ends, and how the machine's isn't like it: "", if it is.
func (h holder) run(input []int64, fuel int) (byte, string) {
	want, e := trace.Run(h.c, input, fuel)
	if e != api.OK {
		return 0, "no run: " + strconv.Itoa(int(e))
	}
	if want.End == api.Wrong || want.Calls > api.MaxCalls {
		return want.End, ""
	}
	m, _ := vm.New(h.img, input)
	room := enough(h.c, want.Steps)
	for k := 1; k <= want.Marks; k++ {
		before := m.Status().Steps
		if !m.ToMark(room) {
			return want.End, "the mark " + strconv.Itoa(k) + " isn't come to: " + told(m.Status())
		}
		room -= m.Status().Steps - before
		// Of a long run its beginning and its end tell enough.
		if k > 25 && k <= want.Marks-3 {
			continue
		}
		if s := h.state(m, input, k, fuel); s != "" {
			return want.End, s + " at the mark " + strconv.Itoa(k)
		}
	}
	if want.End == api.StopFuel {
		return want.End, ""
	}
	m.Run(room)
	return want.End, h.end(m.Status(), want)
}

func (h holder) end(got vm.Status, want trace.Result) string {
	switch {
	case got.End != want.End:
		return "the end " + strconv.Itoa(int(got.End)) + ", not " + strconv.Itoa(int(want.End))
	case got.Exit != want.Exit:
		return "the exit " + strconv.FormatInt(got.Exit, 10) + ", not " + strconv.FormatInt(want.Exit, 10)
	case !slices.Equal(got.Outs, want.Outs):
		return "other prints"
	case got.Marks != want.Marks:
		return strconv.Itoa(got.Marks) + " marks, not " + strconv.Itoa(want.Marks)
	}
	switch want.End {
	case api.TrapZero, api.TrapCell, api.TrapIn:
		mark, is := seen.Site(h.debug, got.At)
		if !is || !slices.Equal(seen.Spots(h.debug, mark), h.c.Stops[want.Stop]) {
			return "a trap elsewhere"
		}
	}
	return ""
}

// state tells how what is seen at a mark isn't what it must be.
func (h holder) state(m *vm.Machine, input []int64, k, fuel int) string {
	got := seen.Frames(h.img, h.debug, m.Calls())
	most, outs, e := trace.State(h.c, input, k, fuel)
	least, _, f := trace.State(h.least, input, k, fuel)
	switch {
	case e != api.OK || f != api.OK:
		return "no state"
	case len(m.Status().Outs) != outs:
		return "other prints"
	case len(got) != len(most):
		return strconv.Itoa(len(got)) + " frames, not " + strconv.Itoa(len(most))
	}
	for i, f := range got {
		if f.Fn != most[i].Fn || f.Stmt != most[i].Stmt {
			return "another frame " + strconv.Itoa(i)
		}
		if s := within(f.Vars, most[i].Vars); s != "" {
			return s + " of the frame " + strconv.Itoa(i) + ", that it hasn't"
		}
		if s := within(least[i].Vars, f.Vars); s != "" {
			return s + " of the frame " + strconv.Itoa(i) + ", that isn't shown"
		}
	}
	return ""
}

// within tells which variable of a list isn't one of another one.
func within(l, of []api.Shown) string {
	for i, s := range l {
		if i > 0 && l[i-1].Var >= s.Var {
			return "the variable " + strconv.Itoa(s.Var) + " out of order"
		}
		if !slices.ContainsFunc(of, func(x api.Shown) bool { return x.Var == s.Var && x.Has == s.Has && x.N == s.N }) {
			return "the variable " + strconv.Itoa(s.Var) + " = " + strconv.FormatInt(s.N, 10)
		}
	}
	return ""
}

// holdRun holds a run, and answers how it ends.
func (h holder) holdRun(t *testing.T, input []int64, fuel int) byte {
	t.Helper()
	end, s := h.run(input, fuel)
	if s != "" {
		t.Fatalf("%s, with %v, of\n%s:\n%s", s, input, told(h.c), told(h.img.Words))
	}
	return end
}

// runImage answers how a machine of an image stands behind a long run.
func runImage(t *testing.T, img api.Image, input []int64) vm.Status {
	t.Helper()
	m, e := vm.New(img, input)
	if e != api.OK {
		t.Fatal(e)
	}
	m.Run(200000)
	return m.Status()
}
