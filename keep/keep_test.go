package keep_test

import (
	"bytes"
	"cmp"
	"math"
	"math/rand/v2"
	"slices"
	"testing"

	"teasel/api"
	"teasel/keep"
)

func mustNew(t *testing.T, most int) *keep.Store {
	t.Helper()
	s, e := keep.New(most)
	if e != api.OK || s == nil {
		t.Fatal(most, e)
	}
	return s
}

// wantList holds which moments are kept.
func wantList(t *testing.T, s *keep.Store, want ...int) {
	t.Helper()
	if l := s.List(); !slices.Equal(l, want) {
		t.Errorf("%v is kept, not %v", l, want)
	}
}

func mustPut(t *testing.T, s *keep.Store, choice int, moments ...int) {
	t.Helper()
	for _, at := range moments {
		if e := s.Put(at, []byte{byte(at), byte(at >> 8)}, choice); e != api.OK {
			t.Error(at, e)
		}
	}
}

func wantBest(t *testing.T, s *keep.Store, at, want int, p ...byte) {
	t.Helper()
	got, q, is := s.Best(at)
	if got != want || !is || !bytes.Equal(q, p) {
		t.Errorf("the best of %d is %d, %v, %v, not %d, %v", at, got, q, is, want, p)
	}
}

func wantNone(t *testing.T, s *keep.Store, at int) {
	t.Helper()
	if got, p, is := s.Best(at); got != 0 || p != nil || is {
		t.Errorf("the best of %d is %d, %v, %v", at, got, p, is)
	}
}

func TestNew(t *testing.T) {
	for _, most := range []int{math.MinInt, -1, 0, api.MaxKeep + 1, math.MaxInt} {
		if s, e := keep.New(most); e != api.ErrArg || s != nil {
			t.Error(most, e)
		}
	}
	for _, most := range []int{1, 2, api.MaxKeep - 1, api.MaxKeep} {
		s := mustNew(t, most)
		wantList(t, s)
		wantNone(t, s, math.MaxInt)
		if s.Bytes() != 0 || s.Drop(0) != api.ErrNone {
			t.Error(s.Bytes())
		}
		for at := range most {
			mustPut(t, s, 0, at)
		}
		if n := len(s.List()); n != most || s.Bytes() != 2*most {
			t.Error(n, most)
		}
		mustPut(t, s, most-1, most+5)
		if l := s.List(); len(l) != most || l[most-1] != most+5 || most > 1 && l[most-2] != most-2 {
			t.Error(l)
		}
	}
}

// TestTheChaptersExample: of the moments 5, 9 and 7.
func TestTheChaptersExample(t *testing.T) {
	s := mustNew(t, 2)
	for i, at := range []int{5, 9, 7} {
		if e := s.Put(at, []byte{byte('a' + i)}, i/2); e != api.OK {
			t.Error(e)
		}
	}
	wantList(t, s, 5, 7)
	wantBest(t, s, 6, 5, 'a')
	wantNone(t, s, 4)
}

// TestPutWhatIsKept: these are its bytes then, and nothing goes, whatever the choice is.
func TestPutWhatIsKept(t *testing.T) {
	s := mustNew(t, 3)
	mustPut(t, s, 0, 4, 2, 8)
	for i, choice := range []int{0, 1, 2, 3, -1, math.MinInt, math.MaxInt} {
		p := bytes.Repeat([]byte{byte(i)}, i)
		if e := s.Put(4, p, choice); e != api.OK {
			t.Error(e)
		}
		wantList(t, s, 2, 4, 8)
		wantBest(t, s, 4, 4, p...)
		if n := s.Bytes(); n != 4+i {
			t.Error(n)
		}
	}
	if e := s.Put(8, nil, 0); e != api.OK {
		t.Error(e)
	}
	wantBest(t, s, 9, 8)
}

// TestPutBelowNone: whatever else is so.
func TestPutBelowNone(t *testing.T) {
	s := mustNew(t, 2)
	for range 3 {
		for _, at := range []int{-1, -5, math.MinInt} {
			if e := s.Put(at, []byte{1}, 0); e != api.ErrArg {
				t.Error(at, e)
			}
		}
		mustPut(t, s, 0, len(s.List()))
	}
	wantList(t, s, 1, 2)
	if s.Bytes() != 4 {
		t.Error(s.Bytes())
	}
}

// TestWhoGoes: by each kind of choice, as many times round as it may be.
func TestWhoGoes(t *testing.T) {
	for choice, gone := range map[int]int{
		0: 10, 1: 20, 2: 30, 3: 10, 4: 20, 5: 30, 3000: 10, 3001: 20, math.MaxInt: 20,
		-1: 20, -2: 10, -3: 30, math.MinInt: 10, math.MinInt + 1: 20, -1 << 31: 10, -1<<31 + 2: 30, -1<<31 - 1: 20,
		1 << 31: 30, 1<<31 + 1: 10, 1 << 40: 20,
	} {
		for _, at := range []int{0, 5, 15, 25, 35, math.MaxInt} {
			s := mustNew(t, 3)
			mustPut(t, s, 7, 30, 10, 20)
			mustPut(t, s, choice, at)
			want := []int{at}
			for _, other := range []int{10, 20, 30} {
				if other != gone {
					want = append(want, other)
				}
			}
			slices.Sort(want)
			if l := s.List(); !slices.Equal(l, want) {
				t.Errorf("by %d %v stay, not %v", choice, l, want)
			}
		}
	}
	s := mustNew(t, 1)
	for _, choice := range []int{0, 1, 5, -1, math.MinInt, math.MaxInt} {
		mustPut(t, s, choice, 3, 7)
		wantList(t, s, 7)
	}
}

// TestWhereThereIsRoom: nobody goes, whatever the choice is.
func TestWhereThereIsRoom(t *testing.T) {
	s := mustNew(t, 4)
	for i, choice := range []int{3, -1, math.MinInt, math.MaxInt} {
		mustPut(t, s, choice, 100-i)
		if len(s.List()) != i+1 {
			t.Error(s.List())
		}
	}
	if e := s.Drop(98); e != api.OK {
		t.Error(e)
	}
	mustPut(t, s, 0, 5)
	wantList(t, s, 5, 97, 99, 100)
}

// TestBest: ahead of moments, at them, between, and behind.
func TestBest(t *testing.T) {
	s := mustNew(t, 5)
	mustPut(t, s, 0, 10, 3, 300)
	for _, at := range []int{2, 0, -1, math.MinInt} {
		wantNone(t, s, at)
	}
	for at, want := range map[int]int{3: 3, 4: 3, 9: 3, 10: 10, 11: 10, 299: 10, 300: 300, 301: 300, math.MaxInt: 300} {
		wantBest(t, s, at, want, byte(want), byte(want>>8))
	}
	mustPut(t, s, 0, 0)
	wantBest(t, s, 0, 0, 0, 0)
	wantBest(t, s, 2, 0, 0, 0)
	wantNone(t, s, -1)
}

func TestDrop(t *testing.T) {
	s := mustNew(t, 3)
	mustPut(t, s, 0, 1, 5, 9)
	for _, at := range []int{0, 2, 4, 6, 10, -1, math.MinInt, math.MaxInt} {
		if e := s.Drop(at); e != api.ErrNone {
			t.Error(at, e)
		}
	}
	wantList(t, s, 1, 5, 9)
	if e := s.Drop(5); e != api.OK {
		t.Error(e)
	}
	wantList(t, s, 1, 9)
	wantBest(t, s, 8, 1, 1, 0)
	if e := s.Drop(5); e != api.ErrNone || s.Bytes() != 4 {
		t.Error(e, s.Bytes())
	}
	for _, at := range []int{9, 1} {
		if e := s.Drop(at); e != api.OK {
			t.Error(at, e)
		}
	}
	wantList(t, s)
	wantNone(t, s, 9)
	if s.Bytes() != 0 {
		t.Error(s.Bytes())
	}
}

// TestNoStore: ErrNone, whatever else is so, and nothing.
func TestNoStore(t *testing.T) {
	var s *keep.Store
	for _, at := range []int{-1, 0, 7} {
		if e := s.Put(at, []byte{1}, 0); e != api.ErrNone {
			t.Error(e)
		}
		if e := s.Drop(at); e != api.ErrNone {
			t.Error(e)
		}
		wantNone(t, s, at)
	}
	if s.List() != nil || s.Bytes() != 0 {
		t.Error(s.List(), s.Bytes())
	}
}

// TestMemory: what is handed in is not changed and not kept, and answers are the caller's.
func TestMemory(t *testing.T) {
	s := mustNew(t, 2)
	p := append(make([]byte, 0, 9), 1, 2, 3)
	room := p[:9]
	copy(room[3:], "spared")
	if e := s.Put(4, p, 0); e != api.OK || string(room) != "\x01\x02\x03spared" {
		t.Error(e, room)
	}
	clear(room)
	wantBest(t, s, 4, 4, 1, 2, 3)
	_, q, _ := s.Best(4)
	clear(q[:cap(q)])
	wantBest(t, s, 4, 4, 1, 2, 3)
	mustPut(t, s, 0, 6)
	l := s.List()
	l[0], l[1] = 77, 78
	l = append(l[:1], 79)
	wantList(t, s, 4, 6)
	other := mustNew(t, 2)
	wantList(t, other)
}

// measure is what a store must be, as a list of moments in no order.
type measure struct {
	most int
	kept map[int]string
}

func (m *measure) list() []int {
	var l []int
	for at := range m.kept {
		l = append(l, at)
	}
	slices.SortFunc(l, cmp.Compare[int])
	return l
}

func (m *measure) put(at int, p string, choice int) api.Errno {
	if at < 0 {
		return api.ErrArg
	}
	if _, had := m.kept[at]; !had && len(m.kept) == m.most {
		n := uint64(choice)
		if choice < 0 {
			n %= 1 << 31
		}
		delete(m.kept, m.list()[n%uint64(m.most)])
	}
	m.kept[at] = p
	return api.OK
}

// hold does what a row of numbers says with a store and with its measure.
func hold(t *testing.T, r *rand.Rand, most, steps int) {
	t.Helper()
	s, m := mustNew(t, most), &measure{most, map[int]string{}}
	for range steps {
		at := r.IntN(3*most+4) - 2
		switch r.IntN(4) {
		case 0, 1:
			p := bytes.Repeat([]byte{byte(r.IntN(256))}, r.IntN(5))
			choice := r.IntN(200) - 100
			if r.IntN(3) == 0 {
				choice = int(r.Uint64())
			}
			if e := s.Put(at, p, choice); e != m.put(at, string(p), choice) {
				t.Fatal(at, e)
			}
			clear(p)
		case 2:
			_, had := m.kept[at]
			delete(m.kept, at)
			if e := s.Drop(at); (e == api.OK) != had || !had && e != api.ErrNone {
				t.Fatal(at, e, had)
			}
		}
		n, want := 0, -1
		for k, p := range m.kept {
			n += len(p)
			if k <= at {
				want = max(want, k)
			}
		}
		if l := s.List(); !slices.Equal(l, m.list()) || s.Bytes() != n {
			t.Fatalf("%v, of %d bytes, not %v, of %d", l, s.Bytes(), m.list(), n)
		}
		if got, p, is := s.Best(at); is != (want >= 0) || is && (got != want || string(p) != m.kept[want]) {
			t.Fatal(at, got, p, is, want)
		}
	}
}

func TestByChance(t *testing.T) {
	for seed := range uint64(300) {
		hold(t, rand.New(rand.NewPCG(seed, 25)), 1+int(seed)%api.MaxKeep, 200)
	}
}

func FuzzStore(f *testing.F) {
	f.Add(uint64(1), 3, 50)
	f.Fuzz(func(t *testing.T, seed uint64, most, steps int) {
		hold(t, rand.New(rand.NewPCG(seed, 1)), 1+(most&0xffff)%api.MaxKeep, steps&0xff)
	})
}
