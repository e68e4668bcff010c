package mem

import (
	"bytes"
	"math"
	"math/rand"
	"slices"
	"testing"

	"tincture/api"
)

const lastPage = 0xffffff00

func made(t *testing.T, budget int) *Mem {
	t.Helper()
	m, e := New(budget)
	if m == nil || e != api.OK {
		t.Fatalf("P3.1: New(%d): %v, %d", budget, m, e)
	}
	return m
}

func mapped(t *testing.T, m *Mem, addr, n uint32, perm int) {
	t.Helper()
	if e := m.Map(addr, n, perm); e != api.OK {
		t.Fatalf("P3.1: Map(%d, %d, %d): %d", addr, n, perm, e)
	}
}

// told is all that a memory tells of some pages, so that two of them can be held against each other.
type told struct {
	pages []uint32
	perm  []int
	gen   []uint32
	bytes []uint32
}

func tell(m *Mem, addrs ...uint32) told {
	var all told
	all.pages = m.Pages()
	for _, addr := range append(addrs, all.pages...) {
		perm, ok := m.Perm(addr)
		if !ok {
			perm = -1
		}
		all.perm = append(all.perm, perm)
		all.gen = append(all.gen, m.Gen(addr))
		for i := range uint32(api.Page) {
			v, f := m.Load(addr/api.Page*api.Page+i, 1, 0)
			all.bytes = append(all.bytes, v, uint32(f))
		}
	}
	return all
}

func (a told) same(b told) bool {
	return slices.Equal(a.pages, b.pages) && slices.Equal(a.perm, b.perm) && slices.Equal(a.gen, b.gen) && slices.Equal(a.bytes, b.bytes)
}

func TestNew(t *testing.T) {
	for _, budget := range []int{math.MinInt, -1, 0, api.MaxPages + 1, math.MaxInt} {
		if m, e := New(budget); m != nil || e != api.EARG {
			t.Errorf("P3.1: New(%d): %v, %d", budget, m, e)
		}
	}
	for _, budget := range []int{1, 2, api.MaxPages} {
		m := made(t, budget)
		if len(m.Pages()) != 0 {
			t.Errorf("P3.1: New(%d) has pages: %v", budget, m.Pages())
		}
		size := uint32(budget * api.Page)
		if e := m.Map(0, size+1, 0); e != api.EFULL {
			t.Errorf("P3.1: Map of one page beyond %d: %d", budget, e)
		}
		mapped(t, m, api.Page, size, 0)
		if e := m.Map(0, 1, 0); e != api.EFULL || len(m.Pages()) != budget {
			t.Errorf("P3.1: Map beyond %d: %d, %d pages", budget, e, len(m.Pages()))
		}
		m.Unmap(api.Page, 1)
		mapped(t, m, 0, 1, 0)
	}
}

func TestStretch(t *testing.T) {
	wrong := []struct{ addr, n uint32 }{
		{0, 0}, {256, 0}, {lastPage, 0}, {1, 1}, {255, 256}, {257, 256}, {128, 256}, {math.MaxUint32, 1},
		{lastPage, 257}, {lastPage, math.MaxUint32}, {256, math.MaxUint32}, {256, lastPage + 1}, {1 << 31, 1<<31 + 1},
	}
	for _, c := range wrong {
		m := made(t, 4)
		mapped(t, m, 0, 257, 3)
		mapped(t, m, lastPage, 1, 3)
		was := tell(m, 0)
		for name, e := range map[string]api.Errno{
			"Map": m.Map(c.addr, c.n, 1), "Unmap": m.Unmap(c.addr, c.n), "Protect": m.Protect(c.addr, c.n, 1),
		} {
			if e != api.EARG {
				t.Errorf("P3.1: %s(%d, %d): %d, want EARG", name, c.addr, c.n, e)
			}
		}
		if !was.same(tell(m, 0)) {
			t.Errorf("P3.1: a stretch (%d, %d) that was refused changed something", c.addr, c.n)
		}
	}
	right := []struct {
		addr, n uint32
		pages   []uint32
	}{
		{0, 1, []uint32{0}}, {0, 255, []uint32{0}}, {0, 256, []uint32{0}}, {0, 257, []uint32{0, 256}}, {512, 512, []uint32{512, 768}},
		{512, 513, []uint32{512, 768, 1024}}, {lastPage, 1, []uint32{lastPage}}, {lastPage, 256, []uint32{lastPage}},
		{lastPage - 256, 257, []uint32{lastPage - 256, lastPage}},
	}
	for _, c := range right {
		m := made(t, 4)
		mapped(t, m, c.addr, c.n, 3)
		if got := m.Pages(); !slices.Equal(got, c.pages) {
			t.Errorf("P3.1: Map(%d, %d): %v, want %v", c.addr, c.n, got, c.pages)
		}
		if e := m.Protect(c.addr, c.n, 5); e != api.OK {
			t.Errorf("P3.1: Protect(%d, %d): %d", c.addr, c.n, e)
		}
		if e := m.Unmap(c.addr, c.n); e != api.OK || len(m.Pages()) != 0 {
			t.Errorf("P3.1: Unmap(%d, %d): %d, %v", c.addr, c.n, e, m.Pages())
		}
	}
}

func TestMap(t *testing.T) {
	m := made(t, 4)
	mapped(t, m, 512, 512, 7)
	was := tell(m, 0, 256, 1024, 1280)
	for _, c := range []struct {
		addr, n uint32
		perm    int
		want    api.Errno
	}{
		{0, 1, -1, api.EARG}, {0, 1, 8, api.EARG}, {0, 1, math.MaxInt, api.EARG}, {0, 1, math.MinInt, api.EARG},
		{512, 1, 8, api.EARG}, {1, 1, 8, api.EARG}, {512, 0, 1, api.EARG}, {513, 1, 1, api.EARG},
		{512, 1, 1, api.EEXIST}, {768, 1, 1, api.EEXIST}, {256, 257, 1, api.EEXIST}, {768, 512, 1, api.EEXIST},
		{256, 768, 1, api.EEXIST}, {512, 4096, 1, api.EEXIST}, {0, math.MaxUint32, 1, api.EEXIST}, {256, lastPage, 1, api.EEXIST},
		{1024, 513, 1, api.EFULL}, {1024, 1 << 31, 1, api.EFULL}, {1024, lastPage - 768, 1, api.EFULL},
	} {
		if e := m.Map(c.addr, c.n, c.perm); e != c.want {
			t.Errorf("P3.1: Map(%d, %d, %d): %d, want %d", c.addr, c.n, c.perm, e, c.want)
		}
		if !was.same(tell(m, 0, 256, 1024, 1280)) {
			t.Fatalf("P3.1: Map(%d, %d, %d) was refused, and changed something", c.addr, c.n, c.perm)
		}
	}
	mapped(t, m, 256, 256, 0)
	mapped(t, m, 1024, 256, 5)
	for addr, want := range map[uint32]int{256: 0, 511: 0, 512: 7, 1023: 7, 1024: 5, 1279: 5} {
		if got, ok := m.Perm(addr); got != want || !ok {
			t.Errorf("P3.1: Perm(%d): %d, %v, want %d", addr, got, ok, want)
		}
	}
	for _, addr := range []uint32{0, 255, 1280, math.MaxUint32} {
		if got, ok := m.Perm(addr); got != 0 || ok {
			t.Errorf("P3.1: Perm(%d): %d, %v of no page", addr, got, ok)
		}
	}
}

func TestMapLaysNoughts(t *testing.T) {
	m := made(t, 2)
	mapped(t, m, 256, 512, 7)
	if e := m.Poke(256, bytes.Repeat([]byte{0xff}, 512)); e != api.OK {
		t.Fatalf("P3.2: Poke: %d", e)
	}
	m.Unmap(256, 1)
	if v, f := m.Load(256, 1, 0); v != 0 || f != api.Unmapped {
		t.Errorf("P3.1: Load of what was taken away: %d, %d", v, f)
	}
	mapped(t, m, 256, 1, 1)
	if b, e := m.Read(256, 256); e != api.OK || !bytes.Equal(b, make([]byte, 256)) {
		t.Errorf("P3.1: Map again: %v, %d", b, e)
	}
	if v, _ := m.Load(512, 4, 1); v != 0xffffffff {
		t.Errorf("P3.1: Unmap of one page touched the next: %x", v)
	}
}

func TestUnmap(t *testing.T) {
	m := made(t, 8)
	for _, addr := range []uint32{2560, 512, 1536, 1024} {
		mapped(t, m, addr, 1, 3)
	}
	for _, c := range []struct {
		addr, n uint32
		left    []uint32
	}{
		{0, 512, []uint32{512, 1024, 1536, 2560}},
		{768, 256, []uint32{512, 1024, 1536, 2560}},
		{768, 769, []uint32{512, 2560}},
		{0, 513, []uint32{2560}},
		{2816, lastPage - 2560, []uint32{2560}},
		{0, math.MaxUint32, nil},
		{0, math.MaxUint32, nil},
	} {
		if e := m.Unmap(c.addr, c.n); e != api.OK || !slices.Equal(m.Pages(), c.left) {
			t.Errorf("P3.1: Unmap(%d, %d): %d, %v, want %v", c.addr, c.n, e, m.Pages(), c.left)
		}
	}
	mapped(t, m, 0, 8*api.Page, 0)
}

func TestProtect(t *testing.T) {
	m := made(t, 4)
	mapped(t, m, 256, 768, 3)
	mapped(t, m, lastPage, 1, 3)
	was := tell(m, 0, 1024)
	for _, c := range []struct {
		addr, n uint32
		perm    int
		want    api.Errno
	}{
		{256, 1, 8, api.EARG}, {256, 1, -1, api.EARG}, {0, 1, 8, api.EARG}, {0, 0, 1, api.EARG}, {1024, 0, 1, api.EARG},
		{0, 1, 1, api.ENONE}, {0, 257, 1, api.ENONE}, {768, 257, 1, api.ENONE}, {256, 769, 1, api.ENONE}, {1024, 1, 1, api.ENONE},
		{0, math.MaxUint32, 1, api.ENONE}, {256, lastPage, 1, api.ENONE}, {lastPage - 256, 512, 1, api.ENONE},
	} {
		if e := m.Protect(c.addr, c.n, c.perm); e != c.want {
			t.Errorf("P3.1: Protect(%d, %d, %d): %d, want %d", c.addr, c.n, c.perm, e, c.want)
		}
		if !was.same(tell(m, 0, 1024)) {
			t.Fatalf("P3.1: Protect(%d, %d, %d) was refused, and changed something", c.addr, c.n, c.perm)
		}
	}
	m.Store(512, 1, 9)
	for perm := range 8 {
		if e := m.Protect(512, 257, perm); e != api.OK {
			t.Errorf("P3.1: Protect to %d: %d", perm, e)
		}
		before, _ := m.Perm(511)
		first, _ := m.Perm(512)
		second, _ := m.Perm(1023)
		last, _ := m.Perm(lastPage)
		if before != 3 || first != perm || second != perm || last != 3 {
			t.Errorf("P3.1: Protect to %d: %d, %d, %d, %d", perm, before, first, second, last)
		}
		if v, f := m.Load(512, 1, 0); v != 9 || f != api.Fine {
			t.Errorf("P3.1: Protect changed a byte: %d, %d", v, f)
		}
	}
}

func TestNumbers(t *testing.T) {
	m := made(t, 2)
	mapped(t, m, 256, 1, 3)
	if f := m.Store(256, 4, 7); f != api.Fine {
		t.Errorf("P3.2: the chapter's Store: %d", f)
	}
	if v, f := m.Load(256, 1, 1); v != 7 || f != api.Fine {
		t.Errorf("P3.2: the chapter's Load: %d, %d", v, f)
	}
	mapped(t, m, lastPage, 1, 3)
	for _, page := range []uint32{256, lastPage} {
		for _, size := range []int{1, 2, 4} {
			for offset := 0; offset < api.Page; offset += size {
				checkNumber(t, m, page, offset, size)
			}
		}
	}
}

func checkNumber(t *testing.T, m *Mem, page uint32, offset, size int) {
	t.Helper()
	want := bytes.Repeat([]byte{0x5a}, api.Page)
	m.Poke(page, want)
	for i := range size {
		want[offset+i] = byte(0xf1 - i)
	}
	addr := page + uint32(offset)
	if f := m.Store(addr, size, 0xeeeff0f1); f != api.Fine {
		t.Errorf("P3.2: Store(%d, %d): %d", addr, size, f)
	}
	if b, e := m.Read(page, api.Page); e != api.OK || !bytes.Equal(b, want) {
		t.Errorf("P3.2: Store(%d, %d) laid %v, %d", addr, size, b, e)
	}
	v, f := m.Load(addr, size, 1)
	if f != api.Fine || v != uint32(0xeeeff0f1&(1<<(8*size)-1)) {
		t.Errorf("P3.2: Load(%d, %d): %x, %d", addr, size, v, f)
	}
}

func TestCrooked(t *testing.T) {
	m := made(t, 2)
	mapped(t, m, 256, 1, 3)
	mapped(t, m, lastPage, 1, 0)
	was := tell(m, 0)
	for _, c := range []struct {
		addr uint32
		size int
	}{
		{256, 0}, {256, 3}, {256, 5}, {256, 6}, {256, 7}, {256, 8}, {256, 16}, {256, -1}, {256, -2}, {256, -4}, {256, math.MaxInt},
		{256, math.MinInt}, {256, 1 << 32}, {256, 1<<32 + 1}, {257, 2}, {259, 2}, {511, 2}, {257, 4}, {258, 4}, {259, 4}, {510, 4},
		{511, 4}, {0, 3}, {1, 2}, {2, 4}, {lastPage + 1, 4}, {math.MaxUint32, 2}, {math.MaxUint32, 4}, {lastPage, 8},
	} {
		for _, need := range []int{0, 1, 8} {
			if v, f := m.Load(c.addr, c.size, need); v != 0 || f != api.Crooked {
				t.Errorf("P3.2: Load(%d, %d, %d): %d, %d, want Crooked", c.addr, c.size, need, v, f)
			}
		}
		if f := m.Store(c.addr, c.size, 0xffffffff); f != api.Crooked || !was.same(tell(m, 0)) {
			t.Errorf("P3.2: Store(%d, %d): %d, want Crooked and no change", c.addr, c.size, f)
		}
	}
}

func TestPermits(t *testing.T) {
	m := made(t, 1)
	mapped(t, m, 256, 1, 7)
	m.Store(256, 4, 0x01020304)
	for perm := range 8 {
		m.Protect(256, 1, perm)
		for _, need := range []int{0, 1, 2, 3, 4, 5, 6, 7, 8, 9, 16, -1, math.MaxInt, math.MinInt} {
			want, fault := uint32(0x01020304), api.Fine
			if need&^perm != 0 {
				want, fault = 0, api.Barred
			}
			if v, f := m.Load(256, 4, need); v != want || f != fault {
				t.Errorf("P3.2: Load of perm %d with need %d: %x, %d, want %d", perm, need, v, f, fault)
			}
			if v, f := m.Load(512, 4, need); v != 0 || f != api.Unmapped {
				t.Errorf("P3.2: Load of no page with need %d: %d, %d", need, v, f)
			}
		}
		checkWrites(t, m, perm)
	}
	if f := m.Store(512, 4, 1); f != api.Unmapped {
		t.Errorf("P3.2: Store to no page: %d", f)
	}
}

func checkWrites(t *testing.T, m *Mem, perm int) {
	t.Helper()
	was := tell(m)
	store, write, read := api.Fine, api.OK, api.OK
	if perm&api.W == 0 {
		store, write = api.Barred, api.EFAULT
	}
	if perm&api.R == 0 {
		read = api.EFAULT
	}
	if f := m.Store(260, 4, 5); f != store {
		t.Errorf("P3.2: Store of perm %d: %d, want %d", perm, f, store)
	}
	if e := m.Write(260, []byte{6}); e != write {
		t.Errorf("P3.2: Write of perm %d: %d, want %d", perm, e, write)
	}
	if perm&api.W == 0 && !was.same(tell(m)) {
		t.Errorf("P3.2: perm %d: what was refused changed something", perm)
	}
	if b, e := m.Read(256, 4); e != read || e == api.OK && !bytes.Equal(b, []byte{4, 3, 2, 1}) || e != api.OK && len(b) != 0 {
		t.Errorf("P3.2: Read of perm %d: %v, %d, want %d", perm, b, e, read)
	}
	if e := m.Poke(260, []byte{byte(perm), 8}); e != api.OK {
		t.Errorf("P3.2: Poke of perm %d: %d", perm, e)
	}
	if v, f := m.Load(260, 2, 0); v != uint32(perm)|8<<8 || f != api.Fine {
		t.Errorf("P3.2: Poke of perm %d laid %x, %d", perm, v, f)
	}
}

// rows has pages 256 to 1023, of which the second may not be written, the third not be read; and the last one.
func rows(t *testing.T) *Mem {
	t.Helper()
	m := made(t, api.MaxPages)
	mapped(t, m, 256, 256, 3)
	mapped(t, m, 512, 256, 1)
	mapped(t, m, 768, 256, 2)
	mapped(t, m, lastPage, 256, 3)
	for i := range uint32(768) {
		m.Poke(256+i, []byte{byte(i%251 + 1)})
	}
	for i := range uint32(256) {
		m.Poke(lastPage+i, []byte{byte(i)})
	}
	return m
}

func TestReadOfRows(t *testing.T) {
	m := rows(t)
	for _, c := range []struct {
		addr uint32
		n    int
		want api.Errno
	}{
		{256, 512, api.OK}, {256, 1, api.OK}, {511, 2, api.OK}, {300, 300, api.OK}, {767, 1, api.OK}, {512, 256, api.OK},
		{0, 0, api.OK}, {300, 0, api.OK}, {800, 0, api.OK}, {math.MaxUint32, 0, api.OK}, {2000, 0, api.OK},
		{lastPage, 256, api.OK}, {math.MaxUint32, 1, api.OK}, {lastPage + 255, 1, api.OK},
		{767, 2, api.EFAULT}, {256, 513, api.EFAULT}, {768, 1, api.EFAULT}, {255, 1, api.EFAULT}, {255, 2, api.EFAULT}, {1024, 1, api.EFAULT},
		{lastPage, 257, api.EFAULT}, {math.MaxUint32, 2, api.EFAULT}, {math.MaxUint32, api.MaxBytes, api.EFAULT}, {lastPage - 1, 2, api.EFAULT},
		{256, -1, api.EARG}, {0, -1, api.EARG}, {256, math.MinInt, api.EARG}, {0, api.MaxBytes + 1, api.EARG},
		{256, api.MaxBytes + 1, api.EARG}, {math.MaxUint32, math.MaxInt, api.EARG}, {0, api.MaxBytes, api.EFAULT},
	} {
		b, e := m.Read(c.addr, c.n)
		if e != c.want {
			t.Errorf("P3.2: Read(%d, %d): %d, want %d", c.addr, c.n, e, c.want)
			continue
		}
		if e != api.OK {
			c.n = 0
		}
		if len(b) != c.n {
			t.Errorf("P3.2: Read(%d, %d): %d bytes", c.addr, c.n, len(b))
		}
		for i := range b {
			if v, _ := m.Load(c.addr+uint32(i), 1, 0); v != uint32(b[i]) {
				t.Errorf("P3.2: Read(%d, %d), byte %d: %d, want %d", c.addr, c.n, i, b[i], v)
			}
		}
	}
}

func TestReadOfMostBytes(t *testing.T) {
	m := made(t, 18)
	mapped(t, m, 1024, 17*api.Page, 1)
	want := make([]byte, api.MaxBytes)
	for i := range want {
		want[i] = byte(i*7 + i/256)
	}
	for _, addr := range []uint32{1024, 1025, 1151, 1280} {
		if e := m.Poke(addr, want); e != api.OK {
			t.Errorf("P3.2: Poke at %d: %d", addr, e)
		}
		if b, e := m.Read(addr, api.MaxBytes); e != api.OK || !bytes.Equal(b, want) {
			t.Errorf("P3.2: Read of MaxBytes at %d: %d", addr, e)
		}
		if b, e := m.Read(addr, api.MaxBytes+1); len(b) != 0 || e != api.EARG {
			t.Errorf("P3.2: Read beyond MaxBytes at %d: %d", addr, e)
		}
	}
	if b, e := m.Read(1281, api.MaxBytes); len(b) != 0 || e != api.EFAULT {
		t.Errorf("P3.2: Read of MaxBytes beyond the pages: %d", e)
	}
}

func TestWritesOfRows(t *testing.T) {
	for _, c := range []struct {
		addr        uint32
		n           int
		write, poke api.Errno
	}{
		{256, 1, api.OK, api.OK}, {256, 256, api.OK, api.OK}, {300, 212, api.OK, api.OK}, {768, 256, api.OK, api.OK},
		{300, 213, api.EFAULT, api.OK}, {511, 2, api.EFAULT, api.OK}, {512, 1, api.EFAULT, api.OK}, {767, 2, api.EFAULT, api.OK},
		{256, 768, api.EFAULT, api.OK}, {256, 769, api.EFAULT, api.EFAULT}, {1023, 2, api.EFAULT, api.EFAULT}, {255, 2, api.EFAULT, api.EFAULT},
		{1024, 1, api.EFAULT, api.EFAULT}, {0, 1, api.EFAULT, api.EFAULT}, {lastPage, 256, api.OK, api.OK}, {lastPage, 257, api.EFAULT, api.EFAULT},
		{math.MaxUint32, 1, api.OK, api.OK}, {math.MaxUint32, 2, api.EFAULT, api.EFAULT}, {lastPage - 1, 2, api.EFAULT, api.EFAULT},
		{0, 0, api.OK, api.OK}, {300, 0, api.OK, api.OK}, {512, 0, api.OK, api.OK}, {math.MaxUint32, 0, api.OK, api.OK},
		{0, api.MaxBytes, api.EFAULT, api.EFAULT}, {0, api.MaxBytes + 1, api.EARG, api.EFAULT}, {256, api.MaxBytes + 1, api.EARG, api.EFAULT},
		{0, api.MaxImage, api.EARG, api.EFAULT}, {0, api.MaxImage + 1, api.EARG, api.EARG}, {math.MaxUint32, api.MaxImage + 1, api.EARG, api.EARG},
	} {
		checkRow(t, "Write", c.addr, c.n, c.write, (*Mem).Write)
		checkRow(t, "Poke", c.addr, c.n, c.poke, (*Mem).Poke)
	}
}

func checkRow(t *testing.T, name string, addr uint32, n int, want api.Errno, put func(*Mem, uint32, []byte) api.Errno) {
	t.Helper()
	m := rows(t)
	was := tell(m, 0, 1024)
	b := make([]byte, n)
	for i := range b {
		b[i] = byte(200 + i%53)
	}
	given := slices.Clone(b)
	e := put(m, addr, b)
	if e != want || !bytes.Equal(b, given) {
		t.Errorf("P3.2: %s(%d, %d bytes): %d, want %d", name, addr, n, e, want)
	}
	if (e != api.OK || n == 0) && !was.same(tell(m, 0, 1024)) {
		t.Errorf("P3.2: %s(%d, %d bytes) was refused or empty, and changed something", name, addr, n)
	}
	if e != api.OK {
		return
	}
	other := rows(t)
	for _, page := range m.Pages() {
		var touched uint32
		for i := range uint32(api.Page) {
			got, _ := m.Load(page+i, 1, 0)
			before, _ := other.Load(page+i, 1, 0)
			if at := int64(page) + int64(i) - int64(addr); at >= 0 && at < int64(n) {
				before, touched = uint32(given[at]), 1
			}
			if got != before {
				t.Errorf("P3.2: %s(%d, %d bytes): at %d %d, want %d", name, addr, n, page+i, got, before)
			}
		}
		if m.Gen(page) != other.Gen(page)+touched {
			t.Errorf("P3.3: %s(%d, %d bytes): Gen(%d) %d more, want %d", name, addr, n, page, m.Gen(page)-other.Gen(page), touched)
		}
	}
}

func TestPutsOfMostBytes(t *testing.T) {
	m := made(t, 258)
	mapped(t, m, 256, 258*api.Page, 0)
	b := make([]byte, api.MaxImage+1)
	for i := range b {
		b[i] = byte(i*3 + i/256)
	}
	if e := m.Poke(300, b); e != api.EARG || m.Gen(300) != 1 {
		t.Errorf("P3.2: Poke beyond MaxImage: %d", e)
	}
	if e := m.Poke(300, b[:api.MaxImage]); e != api.OK {
		t.Errorf("P3.2: Poke of MaxImage: %d", e)
	}
	for i := range api.MaxImage {
		if v, _ := m.Load(300+uint32(i), 1, 0); v != uint32(b[i]) {
			t.Fatalf("P3.2: Poke of MaxImage: byte %d is %d", i, v)
		}
	}
	m.Protect(256, 258*api.Page, 2)
	if e := m.Write(300, b[:api.MaxBytes+1]); e != api.EARG {
		t.Errorf("P3.2: Write beyond MaxBytes: %d", e)
	}
	if e := m.Write(300, b[1:api.MaxBytes+1]); e != api.OK {
		t.Errorf("P3.2: Write of MaxBytes: %d", e)
	}
	for i := range api.MaxBytes {
		if v, _ := m.Load(300+uint32(i), 1, 0); v != uint32(b[i+1]) {
			t.Fatalf("P3.2: Write of MaxBytes: byte %d is %d", i, v)
		}
	}
}

func TestListsAreNotShared(t *testing.T) {
	m := made(t, 4)
	mapped(t, m, 256, 512, 3)
	given := []byte{1, 2, 3, 4, 5, 6}
	m.Write(256, given[:3])
	m.Poke(512, given[:3])
	given[0], given[1] = 99, 99
	if given[3] != 4 || given[4] != 5 || given[5] != 6 {
		t.Errorf("R4: the spare room of what was handed in was changed: %v", given)
	}
	for _, addr := range []uint32{256, 512} {
		b, _ := m.Read(addr, 3)
		b = b[:cap(b)]
		for i := range b {
			b[i] = 77
		}
		if again, _ := m.Read(addr, 4); !bytes.Equal(again, []byte{1, 2, 3, 0}) {
			t.Errorf("R4: the bytes at %d are %v", addr, again)
		}
	}
	pages := m.Pages()
	pages = pages[:cap(pages)]
	for i := range pages {
		pages[i] = 5
	}
	mapped(t, m, 1024, 1, 3)
	if again := m.Pages(); !slices.Equal(again, []uint32{256, 512, 1024}) {
		t.Errorf("R4: the pages are %v", again)
	}
}

func TestGen(t *testing.T) {
	m := made(t, 8)
	step := func(name string, want uint32, changed bool) {
		t.Helper()
		if !changed {
			t.Errorf("P3.3: %s was refused", name)
		}
		if m.Gen(256) != want || m.Gen(511) != want {
			t.Errorf("P3.3: after %s Gen is %d, %d, want %d", name, m.Gen(256), m.Gen(511), want)
		}
		if m.Gen(0) != 0 || m.Gen(255) != 0 || m.Gen(1024) != 0 {
			t.Errorf("P3.3: after %s Gen of pages that never were there: %d, %d, %d", name, m.Gen(0), m.Gen(255), m.Gen(1024))
		}
	}
	ok := api.OK
	step("nothing", 0, true)
	step("Unmap of what is not there", 0, m.Unmap(256, 1) == ok)
	step("Map", 1, m.Map(256, 1, 7) == ok)
	step("Map again", 1, m.Map(256, 1, 7) == api.EEXIST)
	step("Store", 2, m.Store(256, 4, 0) == api.Fine)
	step("Store of one byte, at its end", 3, m.Store(511, 1, 0) == api.Fine)
	step("Write", 4, m.Write(300, []byte{1, 2}) == ok)
	step("Write of nothing", 4, m.Write(300, nil) == ok)
	step("Poke", 5, m.Poke(300, []byte{1, 2}) == ok)
	step("Poke of nothing", 5, m.Poke(300, []byte{}) == ok)
	step("Protect", 6, m.Protect(256, 1, 7) == ok)
	step("Protect that is refused", 6, m.Protect(256, 257, 7) == api.ENONE)
	step("Map of the next page", 6, m.Map(512, 1, 7) == ok)
	step("Store to the next page", 6, m.Store(512, 4, 1) == api.Fine)
	step("Protect of the next page", 6, m.Protect(512, 1, 7) == ok)
	step("Write of both", 7, m.Write(511, []byte{1, 2}) == ok)
	if m.Gen(512) != 4 {
		t.Errorf("P3.3: Gen of the next page: %d", m.Gen(512))
	}
	m.Load(256, 4, 1)
	m.Load(256, 4, 8)
	m.Read(256, 9)
	m.Perm(256)
	m.Pages()
	m.Copy()
	step("reading", 7, true)
	step("Unmap", 8, m.Unmap(0, 512) == ok)
	step("Unmap again", 8, m.Unmap(0, 512) == ok)
	step("Store to what is gone", 8, m.Store(256, 4, 0) == api.Unmapped)
	step("Protect of what is gone", 8, m.Protect(256, 1, 7) == api.ENONE)
	step("Map anew", 9, m.Map(256, 1, 1) == ok)
	step("Store that is barred", 9, m.Store(256, 4, 0) == api.Barred)
	step("Store that is crooked", 9, m.Store(257, 4, 0) == api.Crooked)
	step("Write that is barred", 9, m.Write(256, []byte{1}) == api.EFAULT)
	step("Unmap of both", 10, m.Unmap(256, math.MaxUint32-511) == ok)
	if m.Gen(512) != 5 || m.Gen(767) != 5 {
		t.Errorf("P3.3: Gen of the next page: %d", m.Gen(512))
	}
}

func TestGenWrapsRound(t *testing.T) {
	m := made(t, 1)
	mapped(t, m, 256, 1, 7)
	m.pages[1].gen = math.MaxUint32
	m.Store(256, 1, 1)
	if m.Gen(256) != 0 {
		t.Errorf("P3.3: Gen one past the last: %d", m.Gen(256))
	}
	m.pages[1].gen = math.MaxUint32
	m.Unmap(256, 1)
	if m.Gen(256) != 0 {
		t.Errorf("P3.3: Gen one past the last, of what is gone: %d", m.Gen(256))
	}
	mapped(t, m, 256, 1, 7)
	if m.Gen(256) != 1 {
		t.Errorf("P3.3: Gen from 0 on: %d", m.Gen(256))
	}
}

func TestPagesRise(t *testing.T) {
	m := made(t, 64)
	if len(m.Pages()) != 0 {
		t.Errorf("P3.3: Pages of nothing: %v", m.Pages())
	}
	for _, addr := range []uint32{1 << 31, 0, lastPage, 256, 1<<31 - 256, 4096, 1 << 31 >> 1, 2048} {
		mapped(t, m, addr, 1, 0)
	}
	mapped(t, m, 1024, 768, 0)
	m.Protect(2048, 1, 7)
	want := []uint32{0, 256, 1024, 1280, 1536, 2048, 4096, 1 << 30, 1<<31 - 256, 1 << 31, lastPage}
	if got := m.Pages(); !slices.Equal(got, want) {
		t.Errorf("P3.3: Pages: %v, want %v", got, want)
	}
}

func TestCopy(t *testing.T) {
	changes := map[string]func(*Mem) bool{
		"Map":      func(m *Mem) bool { return m.Map(2048, 1, 7) == api.OK },
		"Map anew": func(m *Mem) bool { return m.Map(1024, 1, 7) == api.OK },
		"Unmap":    func(m *Mem) bool { return m.Unmap(256, 1) == api.OK },
		"Protect":  func(m *Mem) bool { return m.Protect(256, 1, 7) == api.OK },
		"Store":    func(m *Mem) bool { return m.Store(256, 4, 0xdeadbeef) == api.Fine },
		"Write":    func(m *Mem) bool { return m.Write(300, []byte{9, 9}) == api.OK },
		"Poke":     func(m *Mem) bool { return m.Poke(511, []byte{9, 9}) == api.OK },
	}
	for name, change := range changes {
		for _, back := range []bool{false, true} {
			m := made(t, 3)
			mapped(t, m, 256, 512, 3)
			mapped(t, m, 1024, 1, 3)
			m.Poke(256, []byte{1, 2, 3, 4})
			m.Unmap(1024, 1)
			other := m.Copy()
			was := tell(m, 1024, 2048)
			if !was.same(tell(other, 1024, 2048)) {
				t.Errorf("P3.3: a Copy is another thing")
			}
			if back {
				m, other = other, m
			}
			if !change(other) || was.same(tell(other, 1024, 2048)) {
				t.Errorf("P3.3: %s changed nothing", name)
			}
			if !was.same(tell(m, 1024, 2048)) {
				t.Errorf("P3.3: %s in the one was seen in the other", name)
			}
			if !change(m) || !tell(m, 1024, 2048).same(tell(other, 1024, 2048)) {
				t.Errorf("P3.3: %s in both made them unlike", name)
			}
		}
	}
	m := made(t, 2)
	other := m.Copy()
	if e := other.Map(0, 513, 0); e != api.EFULL {
		t.Errorf("P3.3: a Copy has another budget: %d", e)
	}
	mapped(t, other, 0, 512, 0)
	if len(m.Pages()) != 0 {
		t.Errorf("P3.3: a Copy's pages came to be the other's: %v", m.Pages())
	}
}

// model is memory in the plainest way: byte by byte, and a page's things by its number.
type model struct {
	budget int
	perm   map[uint32]int
	gen    map[uint32]uint32
	bytes  map[uint32]byte
}

func (o *model) numbers(addr, n uint32) ([]uint32, bool) {
	if n == 0 || addr%256 != 0 {
		return nil, false
	}
	var list []uint32
	for at := uint64(addr); at < uint64(addr)+uint64(n); at += 256 {
		if at >= 1<<32 {
			return nil, false
		}
		list = append(list, uint32(at/256))
	}
	return list, true
}

func (o *model) mapIn(addr, n uint32, perm int) api.Errno {
	list, ok := o.numbers(addr, n)
	if !ok || perm < 0 || perm > 7 {
		return api.EARG
	}
	for _, number := range list {
		if _, ok := o.perm[number]; ok {
			return api.EEXIST
		}
	}
	if len(o.perm)+len(list) > o.budget {
		return api.EFULL
	}
	for _, number := range list {
		o.perm[number] = perm
		o.gen[number]++
		for i := range uint32(256) {
			o.bytes[number*256+i] = 0
		}
	}
	return api.OK
}

func (o *model) unmap(addr, n uint32) api.Errno {
	list, ok := o.numbers(addr, n)
	if !ok {
		return api.EARG
	}
	for _, number := range list {
		if _, ok := o.perm[number]; ok {
			delete(o.perm, number)
			o.gen[number]++
		}
	}
	return api.OK
}

func (o *model) protect(addr, n uint32, perm int) api.Errno {
	list, ok := o.numbers(addr, n)
	if !ok || perm < 0 || perm > 7 {
		return api.EARG
	}
	for _, number := range list {
		if _, ok := o.perm[number]; !ok {
			return api.ENONE
		}
	}
	for _, number := range list {
		o.perm[number] = perm
		o.gen[number]++
	}
	return api.OK
}

func (o *model) fine(addr uint32, n, need int) bool {
	for i := range n {
		at := uint64(addr) + uint64(i)
		perm, ok := o.perm[uint32(at/256)]
		if at >= 1<<32 || !ok || perm&need != need {
			return false
		}
	}
	return true
}

func (o *model) put(addr uint32, b []byte, need int) api.Errno {
	if !o.fine(addr, len(b), need) {
		return api.EFAULT
	}
	touched := map[uint32]bool{}
	for i, v := range b {
		o.bytes[addr+uint32(i)] = v
		touched[(addr+uint32(i))/256] = true
	}
	for number := range touched {
		o.gen[number]++
	}
	return api.OK
}

func TestAgainstModel(t *testing.T) {
	for seed := range int64(60) {
		r := rand.New(rand.NewSource(seed))
		o := &model{1 + r.Intn(8), map[uint32]int{}, map[uint32]uint32{}, map[uint32]byte{}}
		m := made(t, o.budget)
		base := uint32(0)
		if seed%2 == 1 {
			base = math.MaxUint32 - 2047
		}
		for range 300 {
			if r.Intn(40) == 0 {
				m = m.Copy()
			}
			walk(t, r, m, o, base+uint32(r.Intn(8*256)))
		}
		for i := range uint32(8 * 256) {
			held(t, m, o, base+i)
		}
	}
}

func walk(t *testing.T, r *rand.Rand, m *Mem, o *model, addr uint32) {
	t.Helper()
	first, n, perm := addr/256*256, uint32(r.Intn(900)), r.Intn(9)
	size := 1 << r.Intn(3)
	number := addr / uint32(size) * uint32(size)
	b := make([]byte, r.Intn(600))
	r.Read(b)
	v := r.Uint32()
	four := []byte{byte(v), byte(v >> 8), byte(v >> 16), byte(v >> 24)}
	var got, want api.Errno
	kind := r.Intn(6)
	switch kind {
	case 0:
		got, want = m.Map(first, n, perm), o.mapIn(first, n, perm)
	case 1:
		got, want = m.Unmap(first, n), o.unmap(first, n)
	case 2:
		got, want = m.Protect(first, n, perm), o.protect(first, n, perm)
	case 3:
		if m.Store(number, size, v) != api.Fine {
			got = api.EFAULT
		}
		want = o.put(number, four[:size], api.W)
	case 4:
		got, want = m.Write(addr, b), o.put(addr, b, api.W)
	case 5:
		got, want = m.Poke(addr, b), o.put(addr, b, 0)
	}
	if got != want {
		t.Fatalf("P3.1, P3.2: kind %d at %d, n %d, perm %d: %d, want %d", kind, addr, n, perm, got, want)
	}
	held(t, m, o, addr)
	read, e := m.Read(addr, len(b))
	if (e == api.OK) != o.fine(addr, len(b), api.R) {
		t.Fatalf("P3.2: Read(%d, %d): %d", addr, len(b), e)
	}
	for i := range read {
		if read[i] != o.bytes[addr+uint32(i)] {
			t.Fatalf("P3.2: Read(%d, %d), byte %d: %d", addr, len(b), i, read[i])
		}
	}
}

func held(t *testing.T, m *Mem, o *model, addr uint32) {
	t.Helper()
	perm, ok := m.Perm(addr)
	want, there := o.perm[addr/256]
	if perm != want || ok != there || m.Gen(addr) != o.gen[addr/256] || len(m.Pages()) != len(o.perm) {
		t.Fatalf("P3.1, P3.3: at %d: %d, %v, Gen %d, want %d, %v, %d", addr, perm, ok, m.Gen(addr), want, there, o.gen[addr/256])
	}
	if v, f := m.Load(addr, 1, 0); there && (v != uint32(o.bytes[addr]) || f != api.Fine) {
		t.Fatalf("P3.2: Load(%d, 1): %d, %d, want %d", addr, v, f, o.bytes[addr])
	}
}
