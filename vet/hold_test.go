package vet_test

import (
	"cmp"
	"slices"
	"testing"

	"teasel/api"
	"teasel/inst"
	"teasel/locs"
	"teasel/vet"
)

// broken is a rule that an image breaks: which one, of what comes in order there which part, and how that is told.
type broken struct {
	rule int
	step int
	at   int
	e    api.Errno
}

// list is all rules that an image breaks, as far as they can be asked at all.
type list []broken

// unless adds one, if it is broken.
func (l *list) unless(is bool, rule, step, at int, e api.Errno) {
	if !is {
		*l = append(*l, broken{rule, step, at, e})
	}
}

// first answers the first rule that is broken, out of all that are.
func first(img api.Image) (int, api.Errno) {
	var l list
	n := len(img.Words)
	l.unless(n >= 1 && n <= 262144, 1, 0, 0, api.ErrLong)
	l.unless(img.Main >= 0 && img.Main < len(img.Entries), 1, 1, 0, api.ErrArg)
	slots := -1
	for i, x := range img.Entries {
		slots = max(slots, x.Slots)
		l.unless(x.Slots >= 0 && x.Slots <= 60000 && x.At >= 0 && x.At < n, 2, i, i, api.ErrRange)
	}
	bound := map[byte]int{api.MIn: slots, api.MOut: slots, api.MCall: len(img.Entries), api.MJump: n, api.MZero: n}
	for at, w := range img.Words {
		l.unless(inst.Form(w), 3, 3*at, at, api.ErrForm)
		if most, is := bound[w.Op]; is {
			l.unless(w.Imm < int64(most), 3, 3*at+1, at, api.ErrRange)
		}
		if at == n-1 {
			l.unless(w.Op == api.MJump || w.Op == api.MRet, 3, 3*at+2, at, api.ErrForm)
		}
	}
	d, e := locs.Decode(img.Debug)
	l.unless(e == api.OK, 4, 0, 0, api.ErrText)
	sites := map[int]int{}
	for i, x := range d.Sites {
		sites[x.At] = i
		l.unless(x.At < n && inst.Traps(img.Words[min(x.At, n-1)].Op), 4, n+i, i, api.ErrNone)
	}
	for at, w := range img.Words {
		if w.Op == api.MMark {
			l.unless(w.Imm < int64(len(d.Marks)), 4, at, at, api.ErrNone)
		}
		_, is := sites[at]
		l.unless(is || !inst.Traps(w.Op), 4, n+len(d.Sites)+at, at, api.ErrNone)
	}
	if len(l) == 0 {
		return 0, api.OK
	}
	slices.SortFunc(l, func(a, b broken) int { return cmp.Or(a.rule-b.rule, a.step-b.step) })
	return l[0].at, l[0].e
}

// want holds what is told of an image by what it must be, and by all the rules.
func want(t testing.TB, img api.Image, at int, e api.Errno) {
	t.Helper()
	hold(t, img)
	if gotAt, got := vet.Check(img); gotAt != at || got != e {
		t.Errorf("at %d the error %d, must be at %d the error %d", gotAt, got, at, e)
	}
}

func hold(t testing.TB, img api.Image) {
	t.Helper()
	at, e := first(img)
	if gotAt, got := vet.Check(img); gotAt != at || got != e {
		t.Fatalf("at %d the error %d, by the rules it is at %d the error %d", gotAt, got, at, e)
	}
}

// known answers the bytes of debug information that is right, with so many marks, and sites at some addresses.
func known(t testing.TB, marks int, sites ...int) []byte {
	t.Helper()
	d := api.Debug{Stops: [][]api.Spot{{{Stmt: 1}}}, Marks: make([]api.Mark, marks)}
	for _, at := range sites {
		d.Sites = append(d.Sites, api.Site{At: at, Mark: marks - 1})
	}
	p, e := locs.Encode(d)
	if e != api.OK {
		t.Fatal("the debug information isn't right", e)
	}
	return p
}

// changed answers a copy of an image that is another one in one thing, or in several.
func changed(img api.Image, changes ...func(img *api.Image)) api.Image {
	x := img
	x.Words, x.Entries, x.Debug = slices.Clone(img.Words), slices.Clone(img.Entries), slices.Clone(img.Debug)
	for _, change := range changes {
		change(&x)
	}
	return x
}
