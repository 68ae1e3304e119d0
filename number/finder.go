package number

import (
	"slices"

	"teasel/api"
)

// finder finds which values stand for which others, until none is found any more.
type finder struct {
	*order
	instead []int          // of each value the one that stands for it, or one from which that is found; itself, if it stands
	users   [][]int        // of each value that stands the reckonings that use it
	queue   []int          // the reckonings that are to be looked at still
	waits   []bool         // which ones are in the queue
	done    map[what][]int // those that reckon so, none of which is over another one, by their places
	lists   map[[2]int]int // lists of values: a list and one more value behind it are a list
}

// what is what a reckoning does. Those that do the same with the same values make the same value.
type what struct {
	op   byte
	imm  int64 // of a phi its block
	a, b int   // of a phi its list of Args, and 0
}

func newFinder(f api.Fun) *finder {
	l := &finder{order: newOrder(f), instead: make([]int, f.Vals), users: make([][]int, f.Vals), done: map[what][]int{}, lists: map[[2]int]int{}}
	for v := range l.instead {
		l.instead[v] = v
	}
	l.waits = make([]bool, len(l.all))
	for p, x := range l.all {
		for _, v := range x.Args {
			l.users[v] = append(l.users[v], p)
		}
		l.wait(p)
	}
	return l
}

func (l *finder) wait(p int) {
	if !l.waits[p] {
		l.waits[p] = true
		l.queue = append(l.queue, p)
	}
}

// find looks at all reckonings, and at those again whose values have become others.
func (l *finder) find() {
	for len(l.queue) > 0 {
		p := l.queue[0]
		l.queue = l.queue[1:]
		l.waits[p] = false
		if x := l.all[p]; l.instead[x.Dst] == x.Dst {
			l.look(p)
		}
	}
}

// look finds what stands for a reckoning, or for which ones it stands.
func (l *finder) look(p int) {
	if v := l.single(l.all[p].Inst); v != l.all[p].Dst {
		l.replace(p, v)
		return
	}
	k := l.what(p)
	same := l.done[k]
	at, _ := slices.BinarySearch(same, p)
	if at > 0 && l.over(same[at-1], p) {
		l.replace(p, l.all[same[at-1]].Dst)
		return
	}
	end := at
	for end < len(same) && l.over(p, same[end]) {
		l.replace(same[end], l.all[p].Dst)
		end++
	}
	l.done[k] = slices.Replace(same, at, end, p)
}

// single answers the value that a copy has, or a phi that has no other one; else the instruction's own.
func (l *finder) single(x api.Inst) int {
	if x.Op != api.ICopy && x.Op != api.IPhi {
		return x.Dst
	}
	one := x.Dst
	for _, v := range x.Args {
		v = l.stands(v)
		if v != x.Dst && one != x.Dst && v != one {
			return x.Dst
		}
		if v != x.Dst {
			one = v
		}
	}
	return one
}

// replace lets a value stand for what a reckoning makes. What it was found by in done needs no care: nobody asks there any more by a value that doesn't stand.
func (l *finder) replace(p, by int) {
	v := l.all[p].Dst
	l.instead[v] = by
	for _, u := range l.users[v] {
		l.wait(u)
	}
	l.users[by] = append(l.users[by], l.users[v]...)
	l.users[v] = nil
}

// stands answers the value that stands for one.
func (l *finder) stands(v int) int {
	for l.instead[v] != v {
		l.instead[v] = l.instead[l.instead[v]]
		v = l.instead[v]
	}
	return v
}

// what tells what a reckoning does, by the values that stand now.
func (l *finder) what(p int) what {
	x := l.all[p]
	k := what{op: x.Op}
	switch {
	case x.Op == api.IConst:
		k.imm = x.Imm
	case x.Op == api.IPhi:
		k.imm = int64(x.block)
		for _, v := range x.Args {
			k.a = l.list(k.a, l.stands(v))
		}
	default:
		k.a = l.stands(x.Args[0])
		if len(x.Args) == 2 {
			k.b = l.stands(x.Args[1])
		}
		if turns(x.Op) && k.b < k.a {
			k.a, k.b = k.b, k.a
		}
	}
	return k
}

// list answers the number of a list of values, which is another one and one more value; 0 is that of the empty one.
func (l *finder) list(n, v int) int {
	k := [2]int{n, v}
	if l.lists[k] == 0 {
		l.lists[k] = len(l.lists) + 1
	}
	return l.lists[k]
}

// turns tells whether an operation makes the same of two values turned round.
func turns(op byte) bool {
	switch op {
	case api.Add, api.Mul, api.And, api.Or, api.Xor, api.Eq, api.Ne:
		return true
	}
	return false
}
