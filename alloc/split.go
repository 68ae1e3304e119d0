package alloc

import (
	"teasel/api"
	"teasel/code"
	"teasel/flow"
)

// split lays a block on each way from a branch to a block that has phis and to which others go on, too.
func split(f *api.Fun) {
	f.Vars = 0
	for i := range f.Blocks {
		nameLess(&f.Blocks[i])
	}
	into, _ := flow.Into(code.Graph(*f))
	for to, from := range into {
		if len(f.Blocks[to].Phis) > 0 && len(from) > 1 {
			splitAhead(f, to, from)
		}
	}
}

// nameLess lets a block's end name nothing that nobody looks at.
func nameLess(b *api.Block) {
	if b.End == api.GoTo || b.End == api.RetNone {
		b.Arg = 0
	}
	if b.End == api.RetVal || b.End == api.RetNone {
		b.To = 0
	}
	if b.End != api.Branch {
		b.Else = 0
	}
}

// splitAhead does so on the ways to one block. The new blocks stand behind all others, so what the phis take from them goes behind what they take from the rest.
func splitAhead(f *api.Fun, to int, from []int) {
	var straight, parted []int // the places of from
	for k, block := range from {
		b := &f.Blocks[block]
		if b.End != api.Branch {
			straight = append(straight, k)
			continue
		}
		parted = append(parted, k)
		if b.To == to {
			b.To = len(f.Blocks)
		} else {
			b.Else = len(f.Blocks)
		}
		f.Blocks = append(f.Blocks, api.Block{End: api.GoTo, To: to})
	}
	order := append(straight, parted...)
	for i, x := range f.Blocks[to].Phis {
		args := make([]int, 0, len(order))
		for _, k := range order {
			args = append(args, x.Args[k])
		}
		f.Blocks[to].Phis[i].Args = args
	}
}
