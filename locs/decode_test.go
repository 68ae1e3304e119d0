package locs_test

import (
	"bytes"
	"math/rand/v2"
	"reflect"
	"slices"
	"testing"

	"teasel/api"
	"teasel/locs"
)

// TestOtherBeginnings: none, a piece, and each bit turned.
func TestOtherBeginnings(t *testing.T) {
	p, _ := locs.Encode(some())
	for i := range 4 {
		wantNone(t, p[i+1:])
		for bit := range 8 {
			q := bytes.Clone(p)
			q[i] ^= 1 << bit
			wantNone(t, q)
		}
	}
	for _, q := range [][]byte{nil, {}, {0x54}, []byte("TSL1"), []byte("TSL10"), {0, 0, 0}, append([]byte{0}, p...)} {
		wantNone(t, q)
	}
}

// TestBytesCutOff: anywhere, and with others behind them.
func TestBytesCutOff(t *testing.T) {
	for _, d := range []api.Debug{{}, example(), some()} {
		p := hold(t, d)
		for i := range p {
			wantNone(t, p[:i])
		}
		for n := range 256 {
			wantNone(t, append(bytes.Clone(p), byte(n)))
		}
		wantNone(t, append(bytes.Clone(p), p...))
		wantNone(t, append(bytes.Clone(p), 0, 0, 0))
	}
}

// TestNumbersOfMoreBytes: than there must be, at each place at which one stands.
func TestNumbersOfMoreBytes(t *testing.T) {
	for _, d := range []api.Debug{{}, example(), some()} {
		l := written(d)
		for i, n := range l {
			least := n.Bytes()
			for size := max(1, len(least)); size <= 8; size++ {
				p := packet()
				for k, other := range l {
					if k != i {
						p = append(p, numberBytes(other)...)
						continue
					}
					p = append(p, 0xf8+byte(size-1))
					p = append(p, n.FillBytes(make([]byte, size))...)
				}
				if is := holdBytes(t, p); is != bytes.Equal(p, bytesOf(d)) {
					t.Fatalf("% x", p)
				}
			}
		}
	}
}

// TestListsThatSayMore: than what stands behind, however little that is.
func TestListsThatSayMore(t *testing.T) {
	for _, much := range [][]byte{{1}, {2}, {0xf7}, {0xf8, 0xf8}, {0xf9, 0xff, 0xff}, {0xfb, 0x7f, 0xff, 0xff, 0xff}, {0xfb, 0x80, 0, 0, 0}, {0xfb, 0xff, 0xff, 0xff, 0xff}, {0xff, 0x7f, 0xff, 0xff, 0xff, 0xff, 0xff, 0xff, 0xff}, {0xff, 0xff, 0xff, 0xff, 0xff, 0xff, 0xff, 0xff, 0xff}} {
		for _, ahead := range [][]byte{nil, {1}, {0}, {1, 1, 0, 0}, {1, 1, 0, 0, 1, 0}, {0, 0}, {1, 1, 0, 0, 1, 0, 0}} {
			wantNone(t, append(packet(ahead...), much...))
			for _, behind := range [][]byte{{0}, {1}, {0, 0}, {1, 1, 1}, {0, 0, 0, 0, 0, 0, 0}} {
				holdBytes(t, slices.Concat(packet(ahead...), much, behind))
			}
		}
	}
	// There would be no room for as many as the number says.
	wantNone(t, append(packet(1, 0xfb, 0x7f, 0xff, 0xff, 0xff), make([]byte, 1000)...))
}

// TestBytesThatAreChanged: one byte of right ones is any other one, is left out, or stands twice.
func TestBytesThatAreChanged(t *testing.T) {
	right := 0
	for _, d := range []api.Debug{{}, example(), some()} {
		p := hold(t, d)
		for i := range p {
			for n := range 256 {
				q := bytes.Clone(p)
				q[i] = byte(n)
				if holdBytes(t, q) {
					right++
				}
			}
			holdBytes(t, slices.Delete(bytes.Clone(p), i, i+1))
			holdBytes(t, slices.Insert(bytes.Clone(p), i, p[i]))
			holdBytes(t, slices.Insert(bytes.Clone(p), i, 0))
		}
	}
	if right < 1000 {
		t.Error(right)
	}
}

// TestMany: long lists of each kind.
func TestMany(t *testing.T) {
	const n = 3000
	d := api.Debug{}
	for i := range n {
		d.Stops = append(d.Stops, []api.Spot{{Fn: i, Stmt: 2 * i}})
		d.Marks = append(d.Marks, api.Mark{Stop: n - 1 - i})
		d.Sites = append(d.Sites, api.Site{At: 1000 * i, Mark: i})
	}
	for i := range n {
		d.Stops[7] = append(d.Stops[7], api.Spot{Fn: n - i, Stmt: i})
		d.Marks[n-8].Locs = append(d.Marks[n-8].Locs, api.Loc{Depth: i, Var: i / 2, Kind: byte(1 + i%3), B: int64(i)})
	}
	hold(t, d)
	locations := d.Marks[n-8].Locs
	locations[n-1] = locations[0]
	wantWrong(t, d)
	locations[n-1].Var = n
	hold(t, d)
	d.Sites[n-1].At = d.Sites[n-2].At
	wantWrong(t, d)
}

// TestAMarkWithVeryManyLocations: is read in one way through, and so are very many marks with one.
func TestAMarkWithVeryManyLocations(t *testing.T) {
	const n = 300000
	d := api.Debug{Stops: [][]api.Spot{{{}}}, Marks: []api.Mark{{}}}
	for i := range n {
		d.Marks[0].Locs = append(d.Marks[0].Locs, api.Loc{Var: i, Kind: api.LNum})
		d.Marks = append(d.Marks, api.Mark{Locs: []api.Loc{{Var: i, Kind: api.LNum}}})
	}
	p, e := locs.Encode(d)
	if e != api.OK {
		t.Fatal(e)
	}
	wantDebug(t, p, d)
	d.Marks[0].Locs[n-1].Var = n / 2
	wantWrong(t, d)
	wantNone(t, p[:len(p)-1])
}

func TestByChance(t *testing.T) {
	right := 0
	for seed := range uint64(4000) {
		r := rand.New(rand.NewPCG(seed, 1))
		d := chance(r)
		p := hold(t, d)
		if p == nil {
			continue
		}
		right++
		for range 20 {
			q := bytes.Clone(p)
			q[4+r.IntN(len(q)-4)] = byte(r.IntN(256))
			holdBytes(t, q)
		}
	}
	if right < 2000 || right > 3800 {
		t.Error(right)
	}
}

// size answers a number that is small, mostly, but may need any number of bytes.
func size(r *rand.Rand) int {
	return r.IntN(1 << (1 + r.IntN(31)))
}

// chance answers debug information by chance, right more often than not.
func chance(r *rand.Rand) api.Debug {
	var d api.Debug
	for range r.IntN(4) {
		var frames []api.Spot
		for range 1 + r.IntN(3) {
			frames = append(frames, api.Spot{Fn: size(r), Stmt: size(r)})
		}
		d.Stops = append(d.Stops, frames)
	}
	for range r.IntN(4*min(1, len(d.Stops)) + 1) {
		m := api.Mark{Stop: r.IntN(len(d.Stops))}
		for range r.IntN(4) {
			m.Locs = append(m.Locs, location(r, len(d.Stops[m.Stop])))
		}
		d.Marks = append(d.Marks, m)
	}
	at := r.IntN(2) * size(r) / 2
	for range r.IntN(len(d.Marks) + 1) {
		d.Sites = append(d.Sites, api.Site{At: at, Mark: r.IntN(len(d.Marks))})
		at += 1 + r.IntN(400)
	}
	if r.IntN(5) == 0 {
		spoil(r, &d)
	}
	return d
}

func location(r *rand.Rand, frames int) api.Loc {
	x := api.Loc{Depth: r.IntN(frames), Var: size(r), Kind: byte(api.LNum + r.IntN(3)), B: int64(r.Uint64() >> r.IntN(64))}
	switch x.Kind {
	case api.LReg:
		x.Arg, x.A = r.IntN(api.Regs), int64(r.Uint64()>>r.IntN(64))
	case api.LSlot:
		x.Arg, x.A = r.IntN(api.MaxSlots), -int64(r.Uint64()>>r.IntN(64))
	}
	return x
}

// spoil changes something, so that it may be wrong.
func spoil(r *rand.Rand, d *api.Debug) {
	n := []int{-1, 0, 1, 3, 15, 16, greatest, greatest + 1}[r.IntN(8)]
	if len(d.Stops) > 0 && r.IntN(3) == 0 {
		d.Stops[0] = d.Stops[0][:r.IntN(len(d.Stops[0]))]
	}
	if len(d.Marks) > 0 && len(d.Marks[0].Locs) > 0 {
		x := &d.Marks[0].Locs[0]
		*[]*int{&x.Depth, &x.Var, &x.Arg, &d.Marks[0].Stop}[r.IntN(4)] = n
	}
	if len(d.Sites) > 0 {
		x := &d.Sites[len(d.Sites)-1]
		*[]*int{&x.At, &x.Mark}[r.IntN(2)] = n
	}
}

// TestMemory: what is handed in stays as it is, and no answer shares memory with it or with another one.
func TestMemory(t *testing.T) {
	for seed := range uint64(300) {
		d := chance(rand.New(rand.NewPCG(seed, 2)))
		before := tidy(d)
		first, e := locs.Encode(d)
		if !reflect.DeepEqual(tidy(d), before) {
			t.Fatal("what is handed in is changed", seed)
		}
		if e != api.OK {
			continue
		}
		again, _ := locs.Encode(d)
		clear(again[:cap(again)])
		if !bytes.Equal(first, bytesOf(d)) {
			t.Fatal("Encode's memory is shared", seed)
		}
		room := append(bytes.Clone(first), 7, 7, 7)
		held := bytes.Clone(room)
		got, _ := locs.Decode(room[:len(first)])
		other, _ := locs.Decode(room[:len(first)])
		if !bytes.Equal(room, held) {
			t.Fatal("what is handed in is changed", seed)
		}
		clear(room)
		for i := range other.Stops {
			clear(other.Stops[i][:cap(other.Stops[i])])
		}
		for i := range other.Marks {
			clear(other.Marks[i].Locs[:cap(other.Marks[i].Locs)])
		}
		clear(other.Stops[:cap(other.Stops)])
		clear(other.Marks[:cap(other.Marks)])
		clear(other.Sites[:cap(other.Sites)])
		if !reflect.DeepEqual(tidy(got), before) {
			t.Fatal("Decode's memory is shared", seed)
		}
	}
}

func FuzzLocs(f *testing.F) {
	f.Add(bytesOf(api.Debug{}))
	f.Add(bytesOf(example()))
	f.Add(bytesOf(some()))
	f.Fuzz(func(t *testing.T, p []byte) {
		holdBytes(t, p)
		holdBytes(t, packet(p...))
		if d, is := of(packet(p...)); is && !bytes.Equal(hold(t, d), packet(p...)) {
			t.Fatalf("% x", p)
		}
	})
}
