// Package loops lets each loop of a function be entered from one block ahead of it, and tells which blocks stand in which loops. A loop is told by its head.
package loops

import (
	"teasel/api"
	"teasel/code"
	"teasel/flow"
	"teasel/forest"
)

// Fun is a function in memory of its own, each loop of which is entered from one block, which goes on to its head alone.
type Fun struct {
	api.Fun
	Ahead  []int // of each head the block from which its loop is entered; of any other block -1
	Size   int   // how many instructions, phis and blocks the function had when it was handed in
	around []int // of each block the head of the innermost loop around it, of a head that of the next one around its own; or -1
	far    []int // of each head another one around it, by which one comes out of many loops soon; of an outermost one itself
	inside forest.Forest
	made   map[int]struct{} // the values that the function made when it was handed in
	free   int              // no lesser number of a value is free
}

// Each answers what plain code becomes if each function is made one with blocks ahead of its loops, and then changed further; or ErrForm, or ErrLimit.
func Each(c api.Code, change func(f *Fun)) (api.Code, api.Errno) {
	if !code.Plain(c) {
		return api.Code{}, api.ErrForm
	}
	out := code.Copy(api.Code{Stops: c.Stops, Main: c.Main})
	size := 0
	for _, f := range c.Funs {
		l := New(f)
		if len(l.Blocks) > api.MaxVals {
			return api.Code{}, api.ErrLimit
		}
		change(l)
		size += code.Size(api.Code{Funs: []api.Fun{l.Fun}})
		if size > api.MaxCode || l.Vals > api.MaxVals {
			return api.Code{}, api.ErrLimit
		}
		out.Funs = append(out.Funs, l.Fun)
	}
	return out, api.OK
}

// New makes one of a function of plain code. The blocks that are new stand behind the others.
func New(f api.Fun) *Fun {
	g := code.Graph(f)
	order, _ := flow.Order(g)
	above, _ := flow.Above(g)
	from, _ := flow.Into(g)
	dominators := forest.New(order, above)
	l := &Fun{Fun: copied(f), Size: code.Size(api.Code{Funs: []api.Fun{f}}) + len(g), around: around(order, dominators, from), made: made(f)}
	for range g {
		l.Ahead = append(l.Ahead, -1)
	}
	for head := range g {
		isBack := func(block int) bool { return dominators.Over(head, block) }
		l.enter(head, from[head], isBack)
	}
	for i := range len(l.Blocks) - len(g) {
		order = append(order, len(g)+i)
	}
	l.inside = forest.New(order, l.around)
	l.far = far(order, l.around)
	return l
}

// In tells whether a block stands in a loop.
func (l *Fun) In(head, block int) bool {
	return l.inside.Over(head, block)
}

// Outermost answers, of the loops around a block, the outermost one of which something is so; if it is so of none, -1. What is so of a loop must be so of those in it that are around the block, too.
func (l *Fun) Outermost(block int, isSo func(head int) bool) int {
	head := block
	if l.Ahead[block] == -1 {
		head = l.around[block]
	}
	if head == -1 || !isSo(head) {
		return -1
	}
	for {
		switch next := l.around[head]; {
		case next == -1:
			return head
		case isSo(l.far[head]):
			head = l.far[head]
		case isSo(next):
			head = next
		default:
			return head
		}
	}
}

// Value answers the number of a new value, the least one that is free.
func (l *Fun) Value() int {
	for {
		v := l.free
		l.free++
		if _, is := l.made[v]; !is {
			l.Vals = max(l.Vals, v+1)
			return v
		}
	}
}

func made(f api.Fun) map[int]struct{} {
	values := map[int]struct{}{}
	for _, b := range f.Blocks {
		for _, list := range [][]api.Inst{b.Phis, b.Insts} {
			for _, x := range list {
				values[x.Dst] = struct{}{}
			}
		}
	}
	return values
}
