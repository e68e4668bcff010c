package shadow

import (
	"bytes"
	"math"
	"math/rand"
	"slices"
	"testing"

	"tincture/api"
)

const (
	lastPage = 0xffffff00
	lastByte = 0xffffffff
)

func made(t *testing.T, budget int) *Shadow {
	t.Helper()
	s, e := New(budget)
	if s == nil || e != api.OK {
		t.Fatalf("P4.1: New(%d): %v, %d", budget, s, e)
	}
	return s
}

func set(t *testing.T, s *Shadow, addr uint32, l ...byte) {
	t.Helper()
	if e := s.Set(addr, l); e != api.OK {
		t.Fatalf("P4.1: Set(%d, %v): %d", addr, l, e)
	}
}

func dirty(t *testing.T, s *Shadow, want ...uint32) {
	t.Helper()
	if got := s.Dirty(); !slices.Equal(got, want) {
		t.Errorf("P4.1: Dirty: %v, want %v", got, want)
	}
}

// told is all that a shadow tells of some pages and of those that are dirty.
func told(s *Shadow, pages ...uint32) ([]uint32, []byte) {
	list := s.Dirty()
	var labels []byte
	for _, first := range append(pages, list...) {
		for i := range uint32(api.Page) {
			labels = append(labels, s.At(first+i))
		}
	}
	return list, labels
}

func same(a, b *Shadow, pages ...uint32) bool {
	p, x := told(a, pages...)
	q, y := told(b, pages...)
	return slices.Equal(p, q) && bytes.Equal(x, y)
}

func TestNew(t *testing.T) {
	for _, budget := range []int{math.MinInt, -1, api.MaxPages + 1, math.MaxInt} {
		if s, e := New(budget); s != nil || e != api.EARG {
			t.Errorf("P4.1: New(%d): %v, %d", budget, s, e)
		}
	}
	for _, budget := range []int{0, 1, 2, api.MaxPages - 1, api.MaxPages} {
		s := made(t, budget)
		dirty(t, s)
		if s.Any(0, math.MaxInt) != 0 || s.At(0) != 0 || s.At(lastByte) != 0 {
			t.Errorf("P4.1: New(%d) has labels", budget)
		}
		for i := range budget {
			set(t, s, uint32(i)*512, 1)
		}
		if len(s.Dirty()) != budget {
			t.Errorf("P4.1: %d pages of %d are dirty", len(s.Dirty()), budget)
		}
		if e := s.Set(1<<31, []byte{1}); e != api.EFULL || s.At(1<<31) != 0 || len(s.Dirty()) != budget {
			t.Errorf("P4.1: a page more than %d: %d", budget, e)
		}
	}
}

func TestNoRoom(t *testing.T) {
	s := made(t, 0)
	for _, e := range []api.Errno{
		s.Fill(5, 1, 1), s.Set(5, []byte{1}), s.Set(5, []byte{0, 0, 128}), s.Put(5, 4, api.Tag{0, 0, 0, 1}), s.Put(5, -1, api.Tag{1}), s.Fill(lastByte, 9, 1),
	} {
		if e != api.EFULL {
			t.Errorf("P4.1: no room at all: %d", e)
		}
	}
	for _, e := range []api.Errno{
		s.Fill(5, 1, 0), s.Fill(5, 0, 1), s.Fill(5, -1, 1), s.Fill(0, 1<<20, 0), s.Set(5, nil), s.Set(5, []byte{}), s.Set(0, make([]byte, 3000)), s.Put(5, 0, api.Tag{1, 1, 1, 1}), s.Put(5, 3, api.Tag{0, 0, 0, 1}),
	} {
		if e != api.OK {
			t.Errorf("P4.1: no room is asked for: %d", e)
		}
	}
	s.Clear(0, math.MaxInt)
	dirty(t, s)
}

func TestAtAndSet(t *testing.T) {
	s := made(t, 3)
	set(t, s, 254, 1, 2, 4, 0, 8)
	for i, want := range []byte{0, 1, 2, 4, 0, 8, 0} {
		if got := s.At(253 + uint32(i)); got != want {
			t.Errorf("P4.1: At(%d): %d, want %d", 253+i, got, want)
		}
	}
	dirty(t, s, 0, 256)
	set(t, s, 255, 255, 0, 3)
	for i, want := range []byte{1, 255, 0, 3, 8} {
		if got := s.At(254 + uint32(i)); got != want {
			t.Errorf("P4.1: a Set over another: At(%d): %d, want %d", 254+i, got, want)
		}
	}
	set(t, s, 254)
	if s.At(254) != 1 {
		t.Errorf("P4.1: a Set of nothing")
	}
	if s.At(1<<31+254) != 0 || s.At(254+1<<16) != 0 {
		t.Errorf("P4.1: a label is seen in another page")
	}
	l := append(make([]byte, 0, 700), bytes.Repeat([]byte{7}, 600)...)
	if e := s.Set(1<<31, l); e != api.EFULL {
		t.Errorf("P4.1: Set of three pages more: %d", e)
	}
	s.Clear(0, 512)
	set(t, s, 1<<31-256, l...)
	if s.Any(1<<31-257, 1) != 0 || s.At(1<<31-256) != 7 || s.At(1<<31+343) != 7 || s.At(1<<31+344) != 0 {
		t.Errorf("P4.1: Set of three pages")
	}
	dirty(t, s, 1<<31-256, 1<<31, 1<<31+256)
}

func TestListIsNotKept(t *testing.T) {
	s := made(t, 2)
	l := append(make([]byte, 0, 300), 1, 2, 3)
	set(t, s, 254, l...)
	l[0], l[1], l[2] = 9, 9, 9
	if s.Tag(254, 4) != (api.Tag{1, 2, 3, 0}) {
		t.Errorf("P4.1: Set keeps its list")
	}
	s.Fill(0, 512, 5)
	s.Clear(0, 512)
	s.Tag(254, 4)
	if !bytes.Equal(l, []byte{9, 9, 9}) || borne(l[3:cap(l)]) != 0 {
		t.Errorf("P4.1: Set's list is changed: %v", l[:cap(l)])
	}
	set(t, s, 254, 1, 2)
	d := s.Dirty()
	d[0] = 77
	dirty(t, s, 0)
}

func TestEndOfMemory(t *testing.T) {
	s := made(t, 1)
	set(t, s, lastByte-1, 1, 2, 4, 8)
	dirty(t, s, lastPage)
	if s.At(0) != 0 || s.At(1) != 0 || s.At(lastByte-1) != 1 || s.At(lastByte) != 2 {
		t.Errorf("P4.1: Set beyond the end")
	}
	if got := s.Tag(lastByte-1, 4); got != (api.Tag{1, 2, 0, 0}) {
		t.Errorf("P4.1: Tag beyond the end: %v", got)
	}
	if e := s.Fill(lastByte, 5, 6); e != api.OK || s.At(lastByte) != 6 || s.At(0) != 0 {
		t.Errorf("P4.1: Fill beyond the end: %d", e)
	}
	if e := s.Fill(lastPage, 1<<20, 3); e != api.OK || s.At(lastPage) != 3 || s.At(lastByte) != 3 || s.At(0) != 0 {
		t.Errorf("P4.1: Fill of 2^20 beyond the end: %d", e)
	}
	if e := s.Put(lastByte, 4, api.Tag{5, 6, 7, 8}); e != api.OK || s.At(lastByte) != 5 || s.At(0) != 0 || s.At(2) != 0 {
		t.Errorf("P4.1: Put beyond the end: %d", e)
	}
	for _, n := range []int{1, 2, 256, 1 << 31, math.MaxInt} {
		if got := s.Any(lastByte, n); got != 5 {
			t.Errorf("P4.1: Any(last, %d): %d", n, got)
		}
	}
	s.Clear(lastPage, math.MaxInt)
	dirty(t, s)
	set(t, s, 0, 1)
	for _, n := range []int{2, 257, 1 << 31, math.MaxInt} {
		if s.Any(lastByte, n) != 0 {
			t.Errorf("P4.1: Any(last, %d) begins anew at 0", n)
		}
		s.Clear(lastByte, n)
		if s.At(0) != 1 {
			t.Errorf("P4.1: Clear(last, %d) begins anew at 0", n)
		}
	}
}

func TestAny(t *testing.T) {
	s := made(t, 4)
	set(t, s, 254, 1, 2, 4)
	set(t, s, 1<<31-1, 16, 32)
	for _, c := range []struct {
		addr uint32
		n    int
		want byte
	}{
		{254, 0, 0}, {254, -1, 0}, {254, math.MinInt, 0}, {254, 1, 1}, {254, 2, 3}, {254, 3, 7}, {254, 4, 7}, {255, 1, 2}, {256, 1, 4}, {257, 1, 0},
		{0, 254, 0}, {0, 255, 1}, {0, 256, 3}, {0, 257, 7}, {255, 600, 6},
		{0, 1<<31 - 1, 7}, {0, 1 << 31, 23}, {1, 1 << 31, 55}, {257, 1 << 31, 48}, {1 << 31, 1 << 31, 32}, {1<<31 + 1, 1 << 31, 0},
		{257, 1<<31 - 258, 0}, {257, 1<<31 - 257, 16}, {0, math.MaxInt, 55}, {1 << 31, math.MaxInt, 32},
	} {
		if got := s.Any(c.addr, c.n); got != c.want {
			t.Errorf("P4.1: Any(%d, %d): %d, want %d", c.addr, c.n, got, c.want)
		}
	}
}

func TestFullChangesNothing(t *testing.T) {
	for name, change := range map[string]func(*Shadow) api.Errno{
		"Set":                   func(s *Shadow) api.Errno { return s.Set(500, bytes.Repeat([]byte{9}, 1000)) },
		"Set from a dirty page": func(s *Shadow) api.Errno { return s.Set(250, bytes.Repeat([]byte{9}, 1000)) },
		"Set that cleans one of two": func(s *Shadow) api.Errno {
			return s.Set(0, append(make([]byte, 256), bytes.Repeat([]byte{9}, 257*2)...))
		},
		"Set whose last byte is one too many": func(s *Shadow) api.Errno { return s.Set(511, []byte{1, 1}) },
		"Fill":                                func(s *Shadow) api.Errno { return s.Fill(500, 1000, 9) },
		"Fill to the next page":               func(s *Shadow) api.Errno { return s.Fill(256, 257, 9) },
		"Fill of 2^20":                        func(s *Shadow) api.Errno { return s.Fill(0, 1<<20, 9) },
		"Put":                                 func(s *Shadow) api.Errno { return s.Put(509, 4, api.Tag{1, 1, 1, 1}) },
	} {
		s := made(t, 2)
		set(t, s, 0, 1, 2, 3)
		set(t, s, 768, 4, 5)
		was := s.Copy()
		if e := change(s); e != api.EFULL {
			t.Errorf("P4.1: %s: %d, want EFULL", name, e)
		}
		if !same(s, was, 0, 256, 512, 768, 1024) {
			t.Errorf("P4.1: %s was refused, and changed something", name)
		}
	}
}

func TestOnePageGoesAnotherComes(t *testing.T) {
	s := made(t, 1)
	set(t, s, 255, 1)
	set(t, s, 255, 0, 1)
	dirty(t, s, 256)
	set(t, s, 255, 1, 0)
	dirty(t, s, 0)
	if e := s.Put(254, 4, api.Tag{0, 0, 0, 2}); e != api.OK || s.At(255) != 0 || s.At(257) != 2 {
		t.Errorf("P4.1: Put that cleans a page and makes one dirty: %d", e)
	}
	dirty(t, s, 256)
	set(t, s, 256, 3)
	if e := s.Set(255, []byte{1, 0}); e != api.EFULL || s.At(255) != 0 || s.At(256) != 3 {
		t.Errorf("P4.1: a label is left behind: %d", e)
	}
	s = made(t, 2)
	set(t, s, 0, 1)
	set(t, s, 600, 1)
	// Two come and two go, one of them last: what counts is how many there are in the end.
	set(t, s, 0, append(append(make([]byte, 256), bytes.Repeat([]byte{5}, 256)...), append(make([]byte, 256), 6)...)...)
	dirty(t, s, 256, 768)
	if e := s.Fill(0, 1024, 0); e != api.OK {
		t.Errorf("P4.1: Fill of 0: %d", e)
	}
	dirty(t, s)
}

func TestFill(t *testing.T) {
	s := made(t, api.MaxPages)
	if e := s.Fill(250, 300, 5); e != api.OK || s.At(249) != 0 || s.At(550) != 0 {
		t.Errorf("P4.1: Fill: %d", e)
	}
	for i := range uint32(300) {
		if s.At(250+i) != 5 {
			t.Fatalf("P4.1: Fill: At(%d): %d", 250+i, s.At(250+i))
		}
	}
	dirty(t, s, 0, 256, 512)
	was := s.Copy()
	for _, n := range []int{1<<20 + 1, 1 << 21, 1 << 32, math.MaxInt} {
		for _, addr := range []uint32{0, 1, lastByte} {
			for _, l := range []byte{0, 1} {
				if e := s.Fill(addr, n, l); e != api.EARG || !same(s, was) {
					t.Errorf("P4.1: Fill(%d, %d, %d): %d, want EARG", addr, n, l, e)
				}
			}
		}
	}
	for _, n := range []int{0, -1, math.MinInt} {
		if e := s.Fill(255, n, 9); e != api.OK || !same(s, was) {
			t.Errorf("P4.1: Fill(255, %d, 9): %d", n, e)
		}
	}
	if e := s.Fill(1<<30, 1<<20, 1); e != api.EFULL || !same(s, was) {
		t.Errorf("P4.1: Fill of 2^20, three pages too many: %d", e)
	}
	if e := s.Fill(250, 300, 0); e != api.OK {
		t.Errorf("P4.1: Fill of 0: %d", e)
	}
	dirty(t, s)
	if e := s.Fill(1<<30+1, 1<<20, 1); e != api.EFULL {
		t.Errorf("P4.1: Fill of 2^20 over one page more than there may be: %d", e)
	}
	if e := s.Fill(1<<30, 1<<20, 1); e != api.OK || len(s.Dirty()) != api.MaxPages || s.At(1<<30+1<<20-1) != 1 || s.At(1<<30+1<<20) != 0 {
		t.Errorf("P4.1: Fill of 2^20: %d", e)
	}
	if e := s.Fill(1<<30, 1<<20, 0); e != api.OK || len(s.Dirty()) != 0 {
		t.Errorf("P4.1: Fill of 2^20 with 0: %d", e)
	}
}

func TestTagAndPut(t *testing.T) {
	four := api.Tag{1, 2, 4, 8}
	for _, addr := range []uint32{0, 1, 100, 252, 253, 254, 255, 1 << 31, lastByte - 3} {
		for _, c := range []struct {
			size int
			want api.Tag
		}{
			{0, api.Tag{}}, {1, api.Tag{1}}, {2, api.Tag{1, 2}}, {3, api.Tag{1, 2, 4}}, {4, four},
			{5, four}, {-1, four}, {8, four}, {256, four}, {math.MaxInt, four}, {math.MinInt, four},
		} {
			s := made(t, 2)
			if e := s.Put(addr, c.size, four); e != api.OK || s.Tag(addr, 4) != c.want {
				t.Errorf("P4.1: Put(%d, %d): %d, %v", addr, c.size, e, s.Tag(addr, 4))
			}
			if c.size == 0 {
				dirty(t, s)
			}
			s.Put(addr, 4, four)
			if got := s.Tag(addr, c.size); got != c.want {
				t.Errorf("P4.1: Tag(%d, %d): %v, want %v", addr, c.size, got, c.want)
			}
			s.Put(addr, c.size, api.Tag{})
			if s.Any(addr, 4) != 15&^(c.want[0]|c.want[1]|c.want[2]|c.want[3]) {
				t.Errorf("P4.1: Put(%d, %d) of clean bytes: %v", addr, c.size, s.Tag(addr, 4))
			}
		}
	}
	s := made(t, 1)
	if e := s.Put(254, 4, four); e != api.EFULL || s.Any(0, 512) != 0 {
		t.Errorf("P4.1: Put over two pages: %d", e)
	}
	if e := s.Put(254, 2, four); e != api.OK || s.Tag(254, 4) != (api.Tag{1, 2}) {
		t.Errorf("P4.1: Put of two bytes: %d", e)
	}
	if e := s.Put(254, 4, api.Tag{0, 0, 3, 3}); e != api.OK || s.Tag(254, 4) != (api.Tag{0, 0, 3, 3}) {
		t.Errorf("P4.1: Put that goes from page to page: %d", e)
	}
}

func TestClear(t *testing.T) {
	full := func() *Shadow {
		s := made(t, 5)
		for _, first := range []uint32{0, 256, 512, 1 << 31, lastPage} {
			s.Fill(first, 256, 3)
		}
		return s
	}
	s := full()
	s.Clear(300, 10)
	if s.At(299) != 3 || s.Any(300, 10) != 0 || s.At(310) != 3 {
		t.Errorf("P4.1: Clear of a part")
	}
	dirty(t, s, 0, 256, 512, 1<<31, lastPage)
	s.Clear(256, 44)
	s.Clear(310, 201)
	dirty(t, s, 0, 256, 512, 1<<31, lastPage)
	s.Clear(511, 1)
	dirty(t, s, 0, 512, 1<<31, lastPage)
	s.Clear(255, 258)
	if s.At(254) != 3 || s.At(255) != 0 || s.At(512) != 0 || s.At(513) != 3 {
		t.Errorf("P4.1: Clear of three pages' parts")
	}
	set(t, s, 1<<20, 1)
	if e := s.Set(1<<21, []byte{1}); e != api.EFULL {
		t.Errorf("P4.1: Clear of parts gave room: %d", e)
	}
	for _, c := range []struct {
		addr uint32
		n    int
		left []uint32
	}{
		{0, 0, []uint32{0, 256, 512, 1 << 31, lastPage}},
		{0, -1, []uint32{0, 256, 512, 1 << 31, lastPage}},
		{256, math.MinInt, []uint32{0, 256, 512, 1 << 31, lastPage}},
		{256, 256, []uint32{0, 512, 1 << 31, lastPage}},
		{256, 255, []uint32{0, 256, 512, 1 << 31, lastPage}},
		{0, 768, []uint32{1 << 31, lastPage}},
		{0, 767, []uint32{512, 1 << 31, lastPage}},
		{0, 1 << 31, []uint32{1 << 31, lastPage}},
		{0, 1<<31 + 256, []uint32{lastPage}},
		{1, 1 << 32, []uint32{0}},
		{512, math.MaxInt, []uint32{0, 256}},
		{0, 1 << 32, nil},
		{0, 1<<32 - 1, []uint32{lastPage}},
		{0, math.MaxInt, nil},
	} {
		s := full()
		s.Clear(c.addr, c.n)
		dirty(t, s, c.left...)
		if e := s.Fill(1<<20, 256*(5-len(c.left)), 1); e != api.OK {
			t.Errorf("P4.1: Clear(%d, %d) gave no room: %d", c.addr, c.n, e)
		}
		if e := s.Fill(1<<22, 1, 1); e != api.EFULL {
			t.Errorf("P4.1: Clear(%d, %d) gave too much room: %d", c.addr, c.n, e)
		}
	}
}

func TestDirtyRises(t *testing.T) {
	s := made(t, 16)
	for _, addr := range []uint32{1 << 31, 5, lastByte, 300, 1<<31 - 1, 4096, 1 << 30, 2048, 511} {
		set(t, s, addr, 1)
	}
	dirty(t, s, 0, 256, 2048, 4096, 1<<30, 1<<31-256, 1<<31, lastPage)
	set(t, s, 300, 0)
	dirty(t, s, 0, 256, 2048, 4096, 1<<30, 1<<31-256, 1<<31, lastPage)
	set(t, s, 511, 0)
	set(t, s, 1<<30, 0)
	s.Clear(5, 1)
	s.Put(lastByte, 1, api.Tag{})
	s.Fill(4000, 500, 0)
	dirty(t, s, 2048, 1<<31-256, 1<<31)
	set(t, s, 6, 0, 0)
	dirty(t, s, 2048, 1<<31-256, 1<<31)
	set(t, s, 256, 255)
	dirty(t, s, 256, 2048, 1<<31-256, 1<<31)
}

func TestNothingStaysOfAPageThatWasClean(t *testing.T) {
	s := made(t, 1)
	s.Fill(0, 256, 9)
	s.Clear(0, 256)
	set(t, s, 17, 1)
	if s.Any(0, 17) != 0 || s.At(17) != 1 || s.Any(18, 238) != 0 {
		t.Errorf("P4.1: a page that was clean has its old labels")
	}
	set(t, s, 17, 0)
	set(t, s, 256, 1)
	dirty(t, s, 256)
}

func TestCopy(t *testing.T) {
	pages := []uint32{0, 256, 512, 1024}
	for name, change := range map[string]func(*Shadow){
		"Set":               func(s *Shadow) { s.Set(0, []byte{9}) },
		"Set of a page":     func(s *Shadow) { s.Set(1024, []byte{9}) },
		"Set that cleans":   func(s *Shadow) { s.Set(255, []byte{0}) },
		"Fill":              func(s *Shadow) { s.Fill(200, 100, 7) },
		"Put":               func(s *Shadow) { s.Put(300, 4, api.Tag{1, 2, 3, 4}) },
		"Clear of a part":   func(s *Shadow) { s.Clear(256, 1) },
		"Clear of all":      func(s *Shadow) { s.Clear(0, math.MaxInt) },
		"Clear of one page": func(s *Shadow) { s.Clear(0, 256) },
	} {
		for _, back := range []bool{false, true} {
			s := made(t, 3)
			set(t, s, 255, 1, 2, 4)
			was := made(t, 3)
			set(t, was, 255, 1, 2, 4)
			other := s.Copy()
			if !same(s, other, pages...) || !same(was, other, pages...) {
				t.Errorf("P4.1: a Copy is another thing")
			}
			if back {
				s, other = other, s
			}
			change(other)
			if same(was, other, pages...) || !same(was, s, pages...) {
				t.Errorf("P4.1: %s in the one, and the other", name)
			}
			change(s)
			if !same(s, other, pages...) {
				t.Errorf("P4.1: %s in both made them unlike", name)
			}
		}
	}
	for _, budget := range []int{0, 2, api.MaxPages} {
		s := made(t, budget)
		other := s.Copy()
		if e := other.Fill(1, budget*256, 1); e != api.EFULL && budget > 0 {
			t.Errorf("P4.1: a Copy has another budget: %d", e)
		}
		if e := other.Fill(0, budget*256, 1); e != api.OK || len(s.Dirty()) != 0 {
			t.Errorf("P4.1: a Copy has another budget: %d", e)
		}
		if e := other.Fill(1<<30, 1, 1); e != api.EFULL {
			t.Errorf("P4.1: a Copy has another budget: %d", e)
		}
	}
}

// model is labels in the plainest way: byte by byte, and only those that are not clean.
type model struct {
	budget int
	labels map[uint32]byte
}

func (o *model) dirty() []uint32 {
	var list []uint32
	for addr := range o.labels {
		if first := addr &^ 255; !slices.Contains(list, first) {
			list = append(list, first)
		}
	}
	slices.Sort(list)
	return list
}

func (o *model) set(addr uint32, l []byte) api.Errno {
	next := &model{o.budget, map[uint32]byte{}}
	for at, v := range o.labels {
		next.labels[at] = v
	}
	for i, v := range l {
		at := uint64(addr) + uint64(i)
		if at < 1<<32 {
			next.labels[uint32(at)] = v
		}
		if v == 0 {
			delete(next.labels, uint32(at))
		}
	}
	if len(next.dirty()) > o.budget {
		return api.EFULL
	}
	o.labels = next.labels
	return api.OK
}

func (o *model) any(addr uint32, n int) byte {
	var all byte
	for at, v := range o.labels {
		if at >= addr && uint64(at) < uint64(addr)+uint64(n) {
			all |= v
		}
	}
	return all
}

func TestAgainstModel(t *testing.T) {
	for seed := range int64(80) {
		r := rand.New(rand.NewSource(seed))
		o := &model{r.Intn(5), map[uint32]byte{}}
		s := made(t, o.budget)
		base := uint32(0)
		if seed%2 == 1 {
			base = lastByte - 1023
		}
		for range 150 {
			if r.Intn(30) == 0 {
				s = s.Copy()
			}
			walk(t, r, s, o, base+uint32(r.Intn(1024)))
		}
		for i := range uint32(1024) {
			if s.At(base+i) != o.labels[base+i] {
				t.Fatalf("P4.1: At(%d): %d, want %d", base+i, s.At(base+i), o.labels[base+i])
			}
		}
	}
}

func walk(t *testing.T, r *rand.Rand, s *Shadow, o *model, addr uint32) {
	t.Helper()
	n, l, size := r.Intn(400), byte(r.Intn(2)<<r.Intn(8)), r.Intn(7)-1
	list := make([]byte, n)
	for range min(n, r.Intn(4)) {
		list[r.Intn(n)] = 1 << r.Intn(8)
	}
	four := api.Tag{byte(r.Intn(2)), byte(r.Intn(2)), byte(r.Intn(3)), byte(r.Intn(4))}
	kept := size
	if size < 0 || size > 4 {
		kept = 4
	}
	var got, want api.Errno
	kind := r.Intn(5)
	switch kind {
	case 0, 1:
		got, want = s.Set(addr, list), o.set(addr, list)
	case 2:
		got, want = s.Fill(addr, n, l), o.set(addr, bytes.Repeat([]byte{l}, n))
	case 3:
		got, want = s.Put(addr, size, four), o.set(addr, four[:kept])
	case 4:
		s.Clear(addr, n)
		o.set(addr, make([]byte, n))
	}
	if got != want || !slices.Equal(s.Dirty(), o.dirty()) {
		t.Fatalf("P4.1: kind %d at %d, n %d: %d, %v, want %d, %v", kind, addr, n, got, s.Dirty(), want, o.dirty())
	}
	var tag api.Tag
	for i := range kept {
		if uint64(addr)+uint64(i) < 1<<32 {
			tag[i] = o.labels[addr+uint32(i)]
		}
	}
	if s.Tag(addr, size) != tag || s.Any(addr, n) != o.any(addr, n) || s.At(addr) != o.labels[addr] {
		t.Fatalf("P4.1: at %d, n %d, size %d: %v, %d, want %v, %d", addr, n, size, s.Tag(addr, size), s.Any(addr, n), tag, o.any(addr, n))
	}
}
