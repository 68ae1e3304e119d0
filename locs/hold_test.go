package locs_test

import (
	"bytes"
	"fmt"
	"math/big"
	"reflect"
	"testing"

	"teasel/api"
	"teasel/locs"
)

const greatest = 1<<31 - 1

// isRight is the chapter's words about debug information, rule by rule.
func isRight(d api.Debug) bool {
	for _, n := range numbersOf(d) {
		if n < 0 || n > greatest {
			return false
		}
	}
	for _, frames := range d.Stops {
		if len(frames) == 0 {
			return false
		}
	}
	for _, m := range d.Marks {
		if m.Stop >= len(d.Stops) || !rightLocs(m.Locs, len(d.Stops[m.Stop])) {
			return false
		}
	}
	for i, s := range d.Sites {
		if s.Mark >= len(d.Marks) || i > 0 && s.At <= d.Sites[i-1].At {
			return false
		}
	}
	return true
}

func rightLocs(l []api.Loc, frames int) bool {
	for i, a := range l {
		for _, b := range l[:i] {
			if a.Depth == b.Depth && a.Var == b.Var {
				return false
			}
		}
		switch {
		case a.Depth >= frames, a.Kind < 1, a.Kind > 3:
			return false
		case a.Kind == 1 && (a.Arg != 0 || a.A != 0), a.Kind == 2 && a.Arg >= 16, a.Kind == 3 && a.Arg >= 60000:
			return false
		}
	}
	return true
}

// numbersOf answers all numbers but A and B.
func numbersOf(d api.Debug) []int {
	var l []int
	for _, frames := range d.Stops {
		for _, x := range frames {
			l = append(l, x.Fn, x.Stmt)
		}
	}
	for _, m := range d.Marks {
		l = append(l, m.Stop)
		for _, x := range m.Locs {
			l = append(l, x.Depth, x.Var, int(x.Kind), x.Arg)
		}
	}
	for _, s := range d.Sites {
		l = append(l, s.At, s.Mark)
	}
	return l
}

// bytesOf answers the bytes of debug information that is right: first its numbers, then each one's bytes.
func bytesOf(d api.Debug) []byte {
	p := []byte{0x54, 0x53, 0x4c, 0x31}
	for _, n := range written(d) {
		p = append(p, numberBytes(n)...)
	}
	return p
}

func written(d api.Debug) []*big.Int {
	var l []*big.Int
	plain := func(numbers ...int) {
		for _, n := range numbers {
			l = append(l, big.NewInt(int64(n)))
		}
	}
	signed := func(n int64) {
		x := new(big.Int).Mul(big.NewInt(n), big.NewInt(2))
		if n < 0 {
			x.Neg(x).Sub(x, big.NewInt(1))
		}
		l = append(l, x)
	}
	plain(len(d.Stops))
	for _, frames := range d.Stops {
		plain(len(frames))
		for _, x := range frames {
			plain(x.Fn, x.Stmt)
		}
	}
	plain(len(d.Marks))
	for _, m := range d.Marks {
		plain(m.Stop, len(m.Locs))
		for _, x := range m.Locs {
			plain(x.Depth, x.Var, int(x.Kind))
			if x.Kind != api.LNum {
				plain(x.Arg)
				signed(x.A)
			}
			signed(x.B)
		}
	}
	plain(len(d.Sites))
	for i, s := range d.Sites {
		if i > 0 {
			s.At -= d.Sites[i-1].At
		}
		plain(s.At, s.Mark)
	}
	return l
}

func numberBytes(n *big.Int) []byte {
	l := n.Bytes() // the highest first, as few as there must be
	switch {
	case len(l) == 0:
		return []byte{0}
	case len(l) == 1 && l[0] <= 0xf7:
		return l
	}
	return append([]byte{0xf8 + byte(len(l)-1)}, l...)
}

// parser reads bytes without looking whether they are as they must be; what it reads is held against its own bytes. (Those of numbers that are too great may come out as anything: they aren't right, or have other bytes.)
type parser struct {
	left  []byte
	ended bool
}

func (p *parser) number() *big.Int {
	n := new(big.Int)
	if len(p.left) == 0 {
		p.ended = true
		return n
	}
	first := p.left[0]
	p.left = p.left[1:]
	if first <= 0xf7 {
		return n.SetInt64(int64(first))
	}
	size := int(first-0xf8) + 1
	if size > len(p.left) {
		p.ended = true
		return n
	}
	n.SetBytes(p.left[:size])
	p.left = p.left[size:]
	return n
}

func (p *parser) plain() int { return int(p.number().Int64()) }

func (p *parser) signed() int64 {
	n := p.number()
	odd := n.Bit(0) == 1
	n.Rsh(n, 1)
	if odd {
		n.Not(n)
	}
	return n.Int64()
}

// list goes on as often as a number says, as long as there are bytes.
func (p *parser) list(item func()) {
	n := p.plain()
	for i := 0; i < n && !p.ended; i++ {
		item()
	}
}

func (p *parser) debug() api.Debug {
	var d api.Debug
	p.list(func() {
		var frames []api.Spot
		p.list(func() { frames = append(frames, api.Spot{Fn: p.plain(), Stmt: p.plain()}) })
		d.Stops = append(d.Stops, frames)
	})
	p.list(func() {
		m := api.Mark{Stop: p.plain()}
		p.list(func() {
			x := api.Loc{Depth: p.plain(), Var: p.plain(), Kind: byte(p.plain())}
			if x.Kind != api.LNum {
				x.Arg, x.A = p.plain(), p.signed()
			}
			x.B = p.signed()
			m.Locs = append(m.Locs, x)
		})
		d.Marks = append(d.Marks, m)
	})
	at := 0
	p.list(func() {
		at += p.plain()
		d.Sites = append(d.Sites, api.Site{At: at, Mark: p.plain()})
	})
	return d
}

// of answers the right debug information whose bytes p is.
func of(p []byte) (api.Debug, bool) {
	if len(p) < 4 {
		return api.Debug{}, false
	}
	x := parser{left: p[4:]}
	d := x.debug()
	if x.ended || !isRight(d) || !bytes.Equal(bytesOf(d), p) {
		return api.Debug{}, false
	}
	return d, true
}

// tidy answers a copy in which no list is empty, but nil.
func tidy(d api.Debug) api.Debug {
	var out api.Debug
	for _, frames := range d.Stops {
		out.Stops = append(out.Stops, append([]api.Spot(nil), frames...))
	}
	for _, m := range d.Marks {
		out.Marks = append(out.Marks, api.Mark{Stop: m.Stop, Locs: append([]api.Loc(nil), m.Locs...)})
	}
	out.Sites = append(out.Sites, d.Sites...)
	return out
}

func told(x any) string {
	s := fmt.Sprintf("%v", x)
	return s[:min(len(s), 2000)]
}

// hold holds Form and Encode of debug information, and Decode of its bytes, by the chapter's words; it answers the bytes.
func hold(t *testing.T, d api.Debug) []byte {
	t.Helper()
	if !isRight(d) {
		wantWrong(t, d)
		return nil
	}
	p, e := locs.Encode(d)
	if want := bytesOf(d); !locs.Form(d) || e != api.OK || !bytes.Equal(p, want) {
		t.Fatalf("Encode answers % x, %d of %s; Form: %v", p, e, told(d), locs.Form(d))
	}
	wantDebug(t, p, d)
	return p
}

func wantWrong(t *testing.T, d api.Debug) {
	t.Helper()
	if p, e := locs.Encode(d); locs.Form(d) || e != api.ErrForm || p != nil {
		t.Fatalf("Encode answers % x, %d of %s; Form: %v", p, e, told(d), locs.Form(d))
	}
}

func wantDebug(t *testing.T, p []byte, want api.Debug) {
	t.Helper()
	if got, e := locs.Decode(p); e != api.OK || !reflect.DeepEqual(tidy(got), tidy(want)) {
		t.Fatalf("Decode answers %s, %d, want %s", told(got), e, told(want))
	}
}

// wantNone holds that bytes aren't those of any.
func wantNone(t *testing.T, p []byte) {
	t.Helper()
	if got, e := locs.Decode(p); e != api.ErrForm || !reflect.DeepEqual(got, api.Debug{}) {
		t.Fatalf("Decode(%s) answers %s, %d", told(p), told(got), e)
	}
}

// holdBytes holds Decode of any bytes; it answers whether they are some debug information's.
func holdBytes(t *testing.T, p []byte) bool {
	t.Helper()
	d, is := of(p)
	if is {
		wantDebug(t, p, d)
	} else {
		wantNone(t, p)
	}
	return is
}

// packet answers bytes behind the beginning.
func packet(l ...byte) []byte {
	return append([]byte("TSL1"), l...)
}
