package locs

import (
	"teasel/api"
	"teasel/packed"
)

// walk goes through debug information in the order of its bytes, by the method values of a writer, which leaves it as it is, or of a reader, which puts there what it reads. It holds what was written, or read, by what is right: so both know the same.
type walk struct {
	number func(n *int) error
	above  func(n *int, from int) error // a number, told by how much it is above another one
	kind   func(b *byte) error
	signed func(n *int64) error

	stops [][]api.Spot
	marks int
	ahead int // the At of the site ahead
}

// variable is what no two of a mark's locations are of.
type variable struct {
	depth  int
	number int
}

func (k *walk) debug(d *api.Debug) error {
	if err := packed.Each(&d.Stops, k.number, k.stop); err != nil {
		return err
	}
	k.stops = d.Stops
	if err := packed.Each(&d.Marks, k.number, k.mark); err != nil {
		return err
	}
	k.marks = len(d.Marks)
	k.ahead = -1
	return packed.Each(&d.Sites, k.number, k.site)
}

func (k *walk) stop(frames *[]api.Spot) error {
	if err := packed.Each(frames, k.number, k.frame); err != nil {
		return err
	}
	return packed.Unless(len(*frames) > 0)
}

func (k *walk) frame(x *api.Spot) error {
	return k.numbers(&x.Fn, &x.Stmt)
}

func (k *walk) numbers(l ...*int) error {
	for _, n := range l {
		if err := k.number(n); err != nil {
			return err
		}
	}
	return nil
}

func (k *walk) mark(x *api.Mark) error {
	if err := k.number(&x.Stop); err != nil {
		return err
	}
	if x.Stop >= len(k.stops) {
		return packed.Wrong
	}
	frames := len(k.stops[x.Stop])
	had := map[variable]struct{}{}
	return packed.Each(&x.Locs, k.number, func(l *api.Loc) error {
		if err := k.loc(l); err != nil {
			return err
		}
		v := variable{depth: l.Depth, number: l.Var}
		_, twice := had[v]
		had[v] = struct{}{}
		return packed.Unless(!twice && l.Depth < frames && found(*l))
	})
}

func (k *walk) loc(x *api.Loc) error {
	if err := k.numbers(&x.Depth, &x.Var); err != nil {
		return err
	}
	if err := k.kind(&x.Kind); err != nil {
		return err
	}
	if x.Kind == api.LNum {
		return k.signed(&x.B)
	}
	if err := k.number(&x.Arg); err != nil {
		return err
	}
	if err := k.signed(&x.A); err != nil {
		return err
	}
	return k.signed(&x.B)
}

// found tells whether a location, whose Arg isn't below 0 where it is looked at, is one at which something can stand.
func found(x api.Loc) bool {
	switch x.Kind {
	case api.LNum:
		return x.Arg == 0 && x.A == 0
	case api.LReg:
		return x.Arg < api.Regs
	case api.LSlot:
		return x.Arg < api.MaxSlots
	}
	return false
}

func (k *walk) site(x *api.Site) error {
	if err := k.above(&x.At, max(k.ahead, 0)); err != nil {
		return err
	}
	if x.At <= k.ahead {
		return packed.Wrong
	}
	k.ahead = x.At
	if err := k.number(&x.Mark); err != nil {
		return err
	}
	return packed.Unless(x.Mark < k.marks)
}
