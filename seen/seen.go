// Package seen tells what is seen of a machine by its image's debug information: frames, and in them variables, as the code had them of which the image was made.
package seen

import (
	"cmp"
	"slices"

	"teasel/api"
	"teasel/vm"
)

// Frames answers the frames that are seen of open calls, the innermost first, right behind a mark. The image must be sound, and the debug information its own.
func Frames(img api.Image, d api.Debug, calls []vm.Call) []api.Frame {
	var l []api.Frame
	for i, c := range calls {
		mark := int(img.Words[c.At].Imm)
		if i > 0 {
			mark, _ = Site(d, c.At)
		}
		l = append(l, frames(d, mark, c)...)
	}
	return l
}

// Site answers the mark that holds at an instruction that calls, or may trap; false: it is none such.
func Site(d api.Debug, at int) (int, bool) {
	i, is := slices.BinarySearchFunc(d.Sites, at, func(s api.Site, at int) int { return cmp.Compare(s.At, at) })
	if !is {
		return 0, false
	}
	return d.Sites[i].Mark, true
}

// Spots answers the frames of a mark's stop, without variables.
func Spots(d api.Debug, mark int) []api.Spot {
	return slices.Clone(d.Stops[d.Marks[mark].Stop])
}

// frames answers those of one call, at a mark.
func frames(d api.Debug, mark int, c vm.Call) []api.Frame {
	var l []api.Frame
	for _, s := range Spots(d, mark) {
		l = append(l, api.Frame{Fn: s.Fn, Stmt: s.Stmt})
	}
	for _, loc := range d.Marks[mark].Locs {
		f := &l[loc.Depth]
		f.Vars = append(f.Vars, api.Shown{Var: loc.Var, Has: true, N: number(loc, c)})
	}
	for _, f := range l {
		slices.SortFunc(f.Vars, func(a, b api.Shown) int { return cmp.Compare(a.Var, b.Var) })
	}
	return l
}

// number answers what a location has.
func number(loc api.Loc, c vm.Call) int64 {
	switch loc.Kind {
	case api.LReg:
		return loc.A*c.Regs[loc.Arg] + loc.B
	case api.LSlot:
		return loc.A*c.Slots[loc.Arg] + loc.B
	}
	return loc.B
}
