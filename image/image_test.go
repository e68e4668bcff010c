package image

import (
	"bytes"
	"debug/elf"
	"encoding/binary"
	"math"
	"math/rand"
	"slices"
	"testing"

	"tincture/api"
)

// head is the first 52 bytes of a file, as the chapter's paragraph 'A file' has
// them.
type head struct {
	Magic          [7]byte
	Noughts        [9]byte
	Two, Machine   uint16
	One, Entry     uint32
	RowsAt         uint32
	AnyA, AnyB     uint32
	Head, Row      uint16
	Count          uint16
	AnyC, AnyD, An uint16
}

// line is a segment's 32 bytes, as that paragraph has them.
type line struct {
	One, Place, Addr, Again, Count, Size, Perm, Page uint32
}

func plainHead(entry uint32, count int) head {
	return head{
		Magic: [7]byte{127, 69, 76, 70, 1, 1, 1},
		Two:   2, Machine: 243, One: 1, Entry: entry, RowsAt: 52,
		Head: 52, Row: 32, Count: uint16(count),
	}
}

// elfPerm has ELF's number for each Perm, told one by one.
var elfPerm = [8]uint32{0, 4, 2, 6, 1, 5, 3, 7}

func laid(h head, lines []line, rest []byte) []byte {
	var b bytes.Buffer
	binary.Write(&b, binary.LittleEndian, h)
	for _, l := range lines {
		binary.Write(&b, binary.LittleEndian, l)
	}
	b.Write(rest)
	return b.Bytes()
}

// written lays an image out as the chapter has it, whether or not it may be.
func written(i Image) []byte {
	var lines []line
	var rest []byte
	for _, s := range i.Segments {
		place := 52 + 32*len(i.Segments) + len(rest)
		lines = append(lines, line{1, uint32(place), s.Addr, s.Addr, uint32(len(s.Bytes)), s.Size, elfPerm[s.Perm&7], 256})
		rest = append(rest, s.Bytes...)
	}
	return laid(plainHead(i.Entry, len(i.Segments)), lines, rest)
}

// mayBe is Good, told by sets of pages and by sums of big numbers.
func mayBe(i Image) api.Errno {
	if len(i.Segments) > 8 {
		return api.ELIMIT
	}
	if len(i.Segments) == 0 {
		return api.EARG
	}
	held, sizes := 0, 0
	for _, s := range i.Segments {
		crooked := s.Addr&255 != 0
		short := s.Size == 0 || int(s.Size) < len(s.Bytes)
		beyond := int(s.Addr)+int(s.Size) > 1<<32
		if crooked || short || beyond || s.Perm < 0 || s.Perm > 7 {
			return api.EARG
		}
		held += len(s.Bytes)
		sizes += int(s.Size)
	}
	if held > 65536 || sizes > 65536 {
		return api.ELIMIT
	}
	pages := map[int]int{}
	runs := false
	for _, s := range i.Segments {
		for at := int(s.Addr); at < int(s.Addr)+int(s.Size); at += 256 {
			pages[at/256]++
			if pages[at/256] > 1 {
				return api.EARG
			}
		}
		from := int(i.Entry) - int(s.Addr)
		if s.Perm >= 4 && from >= 0 && from < int(s.Size) {
			runs = true
		}
	}
	if i.Entry&3 != 0 || !runs {
		return api.EARG
	}
	return api.OK
}

// read is Get, told by the fields of the two rows of numbers above.
func read(b []byte) (Image, api.Errno) {
	if len(b) > 65536 {
		return Image{}, api.ELIMIT
	}
	r := bytes.NewReader(b)
	var h head
	if binary.Read(r, binary.LittleEndian, &h) != nil {
		return Image{}, api.EFORM
	}
	want := plainHead(h.Entry, int(h.Count))
	want.AnyA, want.AnyB, want.AnyC, want.AnyD, want.An = h.AnyA, h.AnyB, h.AnyC, h.AnyD, h.An
	if h != want {
		return Image{}, api.EFORM
	}
	if h.Count > 8 {
		return Image{}, api.ELIMIT
	}
	i := Image{Entry: h.Entry}
	for range h.Count {
		var l line
		if binary.Read(r, binary.LittleEndian, &l) != nil || l.One != 1 || l.Addr != l.Again || l.Page != 256 {
			return Image{}, api.EFORM
		}
		perm := slices.Index(elfPerm[:], l.Perm)
		if perm < 0 || int(l.Place)+int(l.Count) > len(b) {
			return Image{}, api.EFORM
		}
		i.Segments = append(i.Segments, Segment{l.Addr, l.Size, perm, b[l.Place:][:l.Count]})
	}
	if e := mayBe(i); e != api.OK {
		return Image{}, e
	}
	return i, api.OK
}

func equal(i, j Image) bool {
	return i.Entry == j.Entry && slices.EqualFunc(i.Segments, j.Segments, func(s, t Segment) bool {
		return s.Addr == t.Addr && s.Size == t.Size && s.Perm == t.Perm && bytes.Equal(s.Bytes, t.Bytes)
	})
}

func isZero(i Image) bool { return i.Entry == 0 && len(i.Segments) == 0 }

// fits holds that an image and its file go there and back.
func fits(t *testing.T, i Image) {
	t.Helper()
	want := written(i)
	if e := Good(i); e != api.OK {
		t.Errorf("P8.1: Good of entry %d, %d segments: %d, want OK", i.Entry, len(i.Segments), e)
	}
	if b, e := Put(i); e != api.OK || !bytes.Equal(b, want) {
		t.Errorf("P8.1: Put of entry %d, %d segments: %d bytes, %d, want %d bytes as told", i.Entry, len(i.Segments), len(b), e, len(want))
	}
	if j, e := Get(want); e != api.OK || !equal(i, j) {
		t.Errorf("P8.1: Get of Put of entry %d, %d segments: another, %d", i.Entry, len(i.Segments), e)
	}
}

// refused holds that neither Good nor Put nor Get takes an image.
func refused(t *testing.T, what string, i Image, want api.Errno) {
	t.Helper()
	if e := Good(i); e != want {
		t.Errorf("P8.1: Good, %s: %d, want %d", what, e, want)
	}
	if b, e := Put(i); e != want || len(b) != 0 {
		t.Errorf("P8.1: Put, %s: %d bytes, %d, want %d", what, len(b), e, want)
	}
	if b := written(i); len(b) <= api.MaxImage && !slices.ContainsFunc(i.Segments, func(s Segment) bool { return s.Perm != s.Perm&7 }) {
		reads(t, what, b, want)
	}
}

// reads holds what Get answers, and that beside an error it answers nothing.
func reads(t *testing.T, what string, b []byte, want api.Errno) {
	t.Helper()
	i, e := Get(b)
	if e != want || e != api.OK && !isZero(i) {
		t.Errorf("P8.1: Get, %s: %+v, %d, want %d", what, i, e, want)
	}
}

// asTold holds Get against the chapter's words written out apart.
func asTold(t *testing.T, what string, b []byte) {
	t.Helper()
	want, e := read(b)
	if i, f := Get(b); f != e || !equal(i, want) {
		t.Errorf("P8.1: Get, %s: %d, want %d", what, f, e)
	}
}

func ofOne(s Segment) Image { return Image{Entry: s.Addr, Segments: []Segment{s}} }

// sample has segments that touch, one without bytes, one with less bytes than
// its Size, and one at the addresses' end.
func sample() Image {
	return Image{Entry: 0x01020504, Segments: []Segment{
		{Addr: 0x01020400, Size: 512, Perm: 5, Bytes: []byte{9, 8, 7, 6, 5}},
		{Addr: 0x01020600, Size: 1, Perm: 3},
		{Addr: 0xfffffe00, Size: 512, Perm: 1, Bytes: bytes.Repeat([]byte{3, 0, 255}, 170)},
		{Addr: 0x01020300, Size: 256, Perm: 6, Bytes: bytes.Repeat([]byte{77}, 256)},
	}}
}

func TestThereAndBack(t *testing.T) {
	fits(t, sample())
	fits(t, ofOne(Segment{Size: 1, Perm: 4}))
	fits(t, ofOne(Segment{Size: 4, Perm: 7, Bytes: []byte{1, 2, 3, 4}}))
	fits(t, ofOne(Segment{Addr: 0xffffff00, Size: 256, Perm: 5, Bytes: []byte{1}}))
	for perm := range 8 {
		i := sample()
		i.Segments[1].Perm = perm
		fits(t, i)
	}
	var eight Image
	for n := range 8 {
		eight.Segments = append(eight.Segments, Segment{Addr: uint32(n) * 512, Size: 257, Perm: 4, Bytes: []byte{byte(n)}})
		eight.Entry = uint32(n) * 512
		fits(t, eight)
	}
}

func TestElfReadersTakeFiles(t *testing.T) {
	i := sample()
	b, _ := Put(i)
	f, err := elf.NewFile(bytes.NewReader(b))
	if err != nil {
		t.Fatalf("P8.1: no ELF file: %v", err)
	}
	if f.Class != elf.ELFCLASS32 || f.Data != elf.ELFDATA2LSB || f.Type != elf.ET_EXEC || f.Machine != elf.EM_RISCV || f.Entry != uint64(i.Entry) || len(f.Progs) != len(i.Segments) {
		t.Fatalf("P8.1: an ELF file's head: %+v", f.FileHeader)
	}
	for n, p := range f.Progs {
		s := i.Segments[n]
		var perm int
		for flag, bit := range map[elf.ProgFlag]int{elf.PF_R: api.R, elf.PF_W: api.W, elf.PF_X: api.X} {
			if p.Flags&flag != 0 {
				perm |= bit
			}
		}
		own := make([]byte, p.Filesz)
		if len(own) > 0 {
			p.ReadAt(own, 0)
		}
		if p.Type != elf.PT_LOAD || p.Vaddr != uint64(s.Addr) || p.Paddr != p.Vaddr || p.Memsz != uint64(s.Size) || p.Align != 256 || perm != s.Perm || !bytes.Equal(own, s.Bytes) {
			t.Errorf("P8.1: an ELF file's segment %d: %+v", n, p.ProgHeader)
		}
	}
}

// turned is what a test does to a good image, and what Good says then.
type turned struct {
	what string
	do   func(i *Image)
	want api.Errno
}

func faults() []turned {
	return []turned{
		{"nine segments", func(i *Image) {
			for len(i.Segments) < 9 {
				at := uint32(len(i.Segments)) * 4096
				i.Segments = append(i.Segments, Segment{Addr: at, Size: 1})
			}
		}, api.ELIMIT},
		{"Addr 1 above a page", func(i *Image) { i.Segments[0].Addr++ }, api.EARG},
		{"Addr 1 below a page", func(i *Image) { i.Segments[2].Addr-- }, api.EARG},
		{"Addr half a page on", func(i *Image) { i.Segments[1].Addr += 128 }, api.EARG},
		{"Size 0", func(i *Image) { i.Segments[1].Size = 0 }, api.EARG},
		{"Size below its Bytes", func(i *Image) { i.Segments[0].Size = 4 }, api.EARG},
		{"beyond 2^32", func(i *Image) { i.Segments[2].Size = 513 }, api.EARG},
		{"far beyond 2^32", func(i *Image) { i.Segments[2].Size = math.MaxUint32 }, api.EARG},
		{"Perm 8", func(i *Image) { i.Segments[3].Perm = 8 }, api.EARG},
		{"Perm -1", func(i *Image) { i.Segments[3].Perm = -1 }, api.EARG},
		{"Perm 12", func(i *Image) { i.Segments[0].Perm = 12 }, api.EARG},
		{"Perm 1<<32 and X", func(i *Image) { i.Segments[0].Perm = 1<<32 | 4 }, api.EARG},
		{"the least Perm", func(i *Image) { i.Segments[0].Perm = math.MinInt }, api.EARG},
		{"the greatest Perm", func(i *Image) { i.Segments[0].Perm = math.MaxInt }, api.EARG},
		{"Sizes above MaxImage", func(i *Image) { i.Segments[1].Size = 65536 - 512 - 512 - 256 + 1 }, api.ELIMIT},
		{"one Size above MaxImage", func(i *Image) { i.Segments[1].Size = 65537 }, api.ELIMIT},
		{"the same segment twice", func(i *Image) { i.Segments[1] = i.Segments[0] }, api.EARG},
		{"a page inside another", func(i *Image) { i.Segments[1].Addr = 0x01020500 }, api.EARG},
		{"the next one's first byte", func(i *Image) { i.Segments[3].Size = 257 }, api.EARG},
		{"a page of which the other has one byte", func(i *Image) {
			i.Entry, i.Segments[0].Size, i.Segments[1].Addr = 0x01020400, 257, 0x01020500
		}, api.EARG},
		{"Entry 1 on", func(i *Image) { i.Entry++ }, api.EARG},
		{"Entry 2 on", func(i *Image) { i.Entry += 2 }, api.EARG},
		{"Entry 1 back", func(i *Image) { i.Entry-- }, api.EARG},
		{"Entry in no segment", func(i *Image) { i.Entry = 0 }, api.EARG},
		{"Entry behind all", func(i *Image) { i.Entry = 0x01020700 }, api.EARG},
		{"Entry in one without X", func(i *Image) { i.Entry = 0x01020600 }, api.EARG},
		{"Entry in the last page without X", func(i *Image) { i.Entry = 0xfffffffc }, api.EARG},
	}
}

func TestGoodRefuses(t *testing.T) {
	refused(t, "no segment", Image{}, api.EARG)
	refused(t, "no segment, an Entry", Image{Entry: 4096, Segments: []Segment{}}, api.EARG)
	for _, f := range faults() {
		i := sample()
		f.do(&i)
		refused(t, f.what, i, f.want)
	}
	refused(t, "Bytes above MaxImage", ofOne(Segment{Size: 65537, Perm: 7, Bytes: make([]byte, 65537)}), api.ELIMIT)
	refused(t, "Sizes whose sum turns round", Image{Segments: []Segment{
		{Size: 1 << 31, Perm: 7}, {Addr: 1 << 31, Size: 1 << 31, Perm: 7},
	}}, api.ELIMIT)
	refused(t, "all addresses but one page", ofOne(Segment{Addr: 256, Size: math.MaxUint32 - 255, Perm: 7}), api.ELIMIT)
}

func TestGoodTakesEdges(t *testing.T) {
	for _, c := range []struct {
		what string
		do   func(i *Image)
	}{
		{"Size just its Bytes", func(i *Image) { i.Segments[0].Bytes = make([]byte, 512) }},
		{"Sizes of just MaxImage", func(i *Image) { i.Segments[1].Size = 65536 - 512 - 512 - 256 }},
		{"an end at 2^32", func(i *Image) { i.Segments[2].Addr, i.Segments[2].Size = 0xfffffd00, 768 }},
		{"a part of a page, then the next", func(i *Image) { i.Entry, i.Segments[0].Size = 0x01020400, 257 }},
		{"the next page", func(i *Image) {
			i.Entry, i.Segments[0].Size, i.Segments[1].Addr = 0x01020400, 256, 0x01020500
		}},
		{"X alone", func(i *Image) { i.Segments[0].Perm = 4 }},
		{"Entry at a segment's first byte", func(i *Image) { i.Entry = 0x01020400 }},
		{"Entry at a segment's last word", func(i *Image) { i.Entry = 0x010205fc }},
		{"Entry at a segment's last byte", func(i *Image) { i.Segments[0].Size = 509; i.Entry = 0x010205fc }},
		{"Entry in another segment with X", func(i *Image) { i.Entry = 0x01020300 }},
		{"Entry at the last word of all", func(i *Image) { i.Segments[2].Perm = 4; i.Entry = 0xfffffffc }},
	} {
		i := sample()
		c.do(&i)
		if e := Good(i); e != api.OK {
			t.Errorf("P8.1: Good, %s: %d, want OK", c.what, e)
		}
		fits(t, i)
	}
	i := sample()
	i.Segments[0].Size, i.Entry = 508, 0x010205fc
	refused(t, "Entry just behind its segment, in its page", i, api.EARG)
}

func TestEachPerm(t *testing.T) {
	for perm := -9; perm < 20; perm++ {
		i := ofOne(Segment{Addr: 4096, Size: 256, Perm: 4})
		i.Segments = append(i.Segments, Segment{Addr: 8192, Size: 256, Perm: perm})
		if perm >= 0 && perm <= 7 {
			fits(t, i)
		} else {
			refused(t, "a Perm", i, api.EARG)
		}
		i = ofOne(Segment{Addr: 4096, Size: 256, Perm: perm})
		if perm >= 4 && perm <= 7 {
			fits(t, i)
		} else {
			refused(t, "a Perm at Entry", i, api.EARG)
		}
	}
}

// The chapter's order stands between ranks: how many segments, what is wrong
// with one, the sums, the rest.
func TestGoodOrder(t *testing.T) {
	nine := make([]Segment, 9)
	refused(t, "nine that are nothing", Image{Entry: 1, Segments: nine}, api.ELIMIT)
	nine[0] = Segment{Size: 65537, Perm: 9}
	if e := Good(Image{Entry: 1, Segments: nine}); e != api.ELIMIT {
		t.Errorf("P8.1: nine segments, one wrong: %d, want ELIMIT", e)
	}
	i := Image{Entry: 2, Segments: []Segment{{Size: 65536, Perm: 4}, {Size: 65536, Perm: 4}}}
	refused(t, "Sizes above, shared pages, Entry crooked", i, api.ELIMIT)
	for _, wrong := range []Segment{{Addr: 1, Size: 1}, {Addr: 1 << 20}, {Addr: 1 << 20, Size: 1, Perm: 8}, {Addr: 1 << 20, Size: 1, Bytes: []byte{1, 2}}, {Addr: 0xffffff00, Size: 257}} {
		j := Image{Entry: 2, Segments: append(slices.Clone(i.Segments), wrong)}
		if e := Good(j); e != api.EARG {
			t.Errorf("P8.1: a wrong segment %+v behind Sizes above: %d, want EARG", wrong, e)
		}
		slices.Reverse(j.Segments)
		if e := Good(j); e != api.EARG {
			t.Errorf("P8.1: a wrong segment %+v ahead of Sizes above: %d, want EARG", wrong, e)
		}
	}
	for _, f := range faults() {
		for _, g := range faults() {
			i := sample()
			f.do(&i)
			g.do(&i)
			if e, want := Good(i), mayBe(i); e != want {
				t.Errorf("P8.1: Good, %s and %s: %d, want %d", f.what, g.what, e, want)
			}
		}
	}
}

func TestPutTooGreat(t *testing.T) {
	for _, n := range []int{1, 2, 8} {
		room := 65536 - 52 - 32*n
		var i Image
		for k := range n {
			i.Segments = append(i.Segments, Segment{Addr: uint32(k) * 65536, Size: 256, Perm: 4, Bytes: []byte{byte(k)}})
		}
		last := &i.Segments[n-1]
		last.Size, last.Bytes = uint32(65536-256*(n-1)), make([]byte, room-(n-1))
		if int(last.Size) < len(last.Bytes) {
			last.Bytes = last.Bytes[:last.Size]
		}
		for k := 0; len(written(i)) < 65536; k++ {
			i.Segments[k].Bytes = append(i.Segments[k].Bytes, make([]byte, min(255, 65536-len(written(i))))...)
		}
		if len(written(i)) != 65536 {
			t.Fatalf("the test's own image has %d bytes", len(written(i)))
		}
		fits(t, i)
		k := slices.IndexFunc(i.Segments, func(s Segment) bool { return len(s.Bytes) < int(s.Size) })
		i.Segments[k].Bytes = append(i.Segments[k].Bytes, 1)
		if b, e := Put(i); e != api.ELIMIT || len(b) != 0 || Good(i) != api.OK {
			t.Errorf("P8.1: Put of a file of 65537 bytes, %d segments: %d bytes, %d, Good %d", n, len(b), e, Good(i))
		}
		reads(t, "a file of 65537 bytes", written(i), api.ELIMIT)
		i.Entry = 2
		if _, e := Put(i); e != api.EARG {
			t.Errorf("P8.1: Put of what Good refuses, too great as well: %d, want EARG", e)
		}
	}
	full := ofOne(Segment{Size: 65536, Perm: 4, Bytes: make([]byte, 65536)})
	if b, e := Put(full); e != api.ELIMIT || len(b) != 0 || Good(full) != api.OK {
		t.Errorf("P8.1: Put of MaxImage Bytes: %d bytes, %d, Good %d", len(b), e, Good(full))
	}
}

func TestGetOfGreatFiles(t *testing.T) {
	b := written(sample())
	for _, c := range []struct {
		size int
		want api.Errno
	}{{65535, api.OK}, {65536, api.OK}, {65537, api.ELIMIT}, {1 << 20, api.ELIMIT}} {
		reads(t, "an image, then noughts", append(slices.Clone(b), make([]byte, c.size-len(b))...), c.want)
	}
	reads(t, "MaxImage noughts", make([]byte, 65536), api.EFORM)
	reads(t, "more noughts than MaxImage", make([]byte, 65537), api.ELIMIT)
	reads(t, "nothing", nil, api.EFORM)
	reads(t, "an empty list", []byte{}, api.EFORM)
}

func TestGetOfCutFiles(t *testing.T) {
	b := written(sample())
	for n := range b {
		reads(t, "a file cut short", b[:n:n], api.EFORM)
	}
	reads(t, "a whole file", b, api.OK)
	none := written(ofOne(Segment{Addr: 256, Size: 1, Perm: 4}))
	for n := range none {
		reads(t, "a file without bytes, cut short", none[:n:n], api.EFORM)
	}
	bare := laid(plainHead(0, 0), nil, nil)
	reads(t, "a head that tells of none", bare, api.EARG)
	reads(t, "a head that tells of none, cut short", bare[:51], api.EFORM)
}

func TestEachByteOfTheHead(t *testing.T) {
	b := written(sample())
	for at := range 52 {
		for v := range 256 {
			c := slices.Clone(b)
			c[at] = byte(v)
			asTold(t, "a byte of the head", c)
			free := at >= 32 && at < 40 || at >= 46
			told := at >= 24 && at < 28 || at == 44 || at == 45
			if byte(v) == b[at] || free {
				reads(t, "a byte that may be any", c, api.OK)
			} else if !told {
				reads(t, "a byte of the head that is another", c, api.EFORM)
			}
		}
	}
	c := slices.Clone(b)
	for _, at := range []int{32, 33, 34, 35, 36, 37, 38, 39, 46, 47, 48, 49, 50, 51} {
		c[at] = 255
	}
	if i, e := Get(c); e != api.OK || !equal(i, sample()) {
		t.Errorf("P8.1: Get, all that may be any is: %d", e)
	}
}

func TestGetOfSegmentsToldMany(t *testing.T) {
	l := line{1, 0, 0, 0, 0, 256, 1, 256}
	for _, c := range []struct {
		told, there int
		want        api.Errno
	}{
		{0, 0, api.EARG}, {0, 3, api.EARG}, {1, 1, api.OK}, {1, 0, api.EFORM}, {2, 1, api.EFORM},
		{8, 8, api.OK}, {8, 7, api.EFORM}, {8, 9, api.OK}, {9, 9, api.ELIMIT}, {9, 0, api.ELIMIT},
		{9, 8, api.ELIMIT}, {255, 8, api.ELIMIT}, {256, 8, api.ELIMIT}, {257, 8, api.ELIMIT}, {65535, 0, api.ELIMIT},
	} {
		var lines []line
		for n := range c.there {
			l.Addr, l.Again = uint32(n)*256, uint32(n)*256
			lines = append(lines, l)
		}
		reads(t, "so many segments told", laid(plainHead(0, c.told), lines, nil), c.want)
	}
	h := plainHead(0, 9)
	h.Machine = 244
	reads(t, "another machine, and nine segments", laid(h, nil, nil), api.EFORM)
	h = plainHead(1, 9)
	reads(t, "nine segments whose rows are wrong, Entry crooked", laid(h, make([]line, 9), nil), api.ELIMIT)
}

func TestEachByteOfARow(t *testing.T) {
	b := written(sample())
	for n := range sample().Segments {
		for at := 52 + 32*n; at < 84+32*n; at++ {
			for v := range 256 {
				c := slices.Clone(b)
				c[at] = byte(v)
				asTold(t, "a byte of a row", c)
			}
		}
	}
}

func TestRowsAsTold(t *testing.T) {
	good := line{One: 1, Place: 84, Addr: 256, Again: 256, Count: 4, Size: 256, Perm: 1, Page: 256}
	for _, c := range []struct {
		what string
		do   func(l *line)
		want api.Errno
	}{
		{"none of its numbers turned", func(l *line) {}, api.OK},
		{"kind 0", func(l *line) { l.One = 0 }, api.EFORM},
		{"kind 2", func(l *line) { l.One = 2 }, api.EFORM},
		{"kind 1 and more above", func(l *line) { l.One = 0x10001 }, api.EFORM},
		{"the second Addr another", func(l *line) { l.Again = 512 }, api.EFORM},
		{"the first Addr another", func(l *line) { l.Addr = 512 }, api.EFORM},
		{"both Addrs crooked", func(l *line) { l.Addr, l.Again = 257, 257 }, api.EARG},
		{"both Addrs another", func(l *line) { l.Addr, l.Again = 512, 512 }, api.EARG},
		{"Perm 8", func(l *line) { l.Perm = 8 }, api.EFORM},
		{"Perm 9", func(l *line) { l.Perm = 9 }, api.EFORM},
		{"Perm above all", func(l *line) { l.Perm = math.MaxUint32 }, api.EFORM},
		{"Perm 7", func(l *line) { l.Perm = 7 }, api.OK},
		{"Perm 0", func(l *line) { l.Perm = 0 }, api.EARG},
		{"Perm 6, without X", func(l *line) { l.Perm = 6 }, api.EARG},
		{"the page's size 255", func(l *line) { l.Page = 255 }, api.EFORM},
		{"the page's size 4096", func(l *line) { l.Page = 4096 }, api.EFORM},
		{"the page's size 0", func(l *line) { l.Page = 0 }, api.EFORM},
		{"Size 0", func(l *line) { l.Size = 0 }, api.EARG},
		{"Size below its bytes", func(l *line) { l.Size = 3 }, api.EARG},
		{"Size above MaxImage", func(l *line) { l.Size = 65537 }, api.ELIMIT},
		{"Size beyond 2^32", func(l *line) { l.Size = math.MaxUint32 }, api.EARG},
		{"wrong in form and wrong in Good", func(l *line) { l.Size, l.Page = 0, 0 }, api.EFORM},
	} {
		l := good
		c.do(&l)
		reads(t, c.what, laid(plainHead(256, 1), []line{l}, []byte{1, 2, 3, 4}), c.want)
	}
}

func TestBytesWholeWithinTheFile(t *testing.T) {
	for _, c := range []struct {
		place, count uint32
		want         api.Errno
	}{
		{84, 8, api.OK}, {84, 9, api.EFORM}, {85, 8, api.EFORM}, {0, 92, api.OK}, {0, 93, api.EFORM}, {1, 92, api.EFORM},
		{91, 1, api.OK}, {92, 1, api.EFORM}, {92, 0, api.OK}, {93, 0, api.EFORM}, {0, 0, api.OK}, {40, 50, api.OK},
		{math.MaxUint32, 0, api.EFORM}, {math.MaxUint32, 1, api.EFORM}, {math.MaxUint32, math.MaxUint32, api.EFORM},
		{math.MaxUint32 - 3, 8, api.EFORM}, {1, math.MaxUint32, api.EFORM}, {0, math.MaxUint32, api.EFORM}, {1 << 31, 1 << 31, api.EFORM},
	} {
		l := line{One: 1, Place: c.place, Addr: 256, Again: 256, Count: c.count, Size: 256, Perm: 1, Page: 256}
		b := laid(plainHead(256, 1), []line{l}, []byte{1, 2, 3, 4, 5, 6, 7, 8})
		reads(t, "a place and how many", b, c.want)
		if i, e := Get(b); e == api.OK && !bytes.Equal(i.Segments[0].Bytes, b[c.place:c.place+c.count]) {
			t.Errorf("P8.1: Get, %d bytes from %d on: %v", c.count, c.place, i.Segments[0].Bytes)
		}
	}
}

// Files whose segments have their bytes in common may tell of more bytes than a
// file has.
func TestBytesInCommon(t *testing.T) {
	rest := bytes.Repeat([]byte{1, 2, 3}, 100)
	var lines []line
	for n := range uint32(8) {
		lines = append(lines, line{One: 1, Place: 308 + n, Addr: n * 512, Again: n * 512, Count: 300 - n, Size: 300, Perm: 1, Page: 256})
	}
	b := laid(plainHead(0, 8), lines, rest)
	i, e := Get(b)
	if e != api.OK || len(i.Segments) != 8 {
		t.Fatalf("P8.1: Get, bytes in common: %d", e)
	}
	for n, s := range i.Segments {
		if !bytes.Equal(s.Bytes, rest[n:]) {
			t.Errorf("P8.1: Get, bytes in common, segment %d: %v", n, s.Bytes)
		}
	}
	for n := range lines {
		lines[n].Place, lines[n].Count, lines[n].Size = 0, 20000, 20000
		lines[n].Addr, lines[n].Again = uint32(n)<<20, uint32(n)<<20
	}
	b = laid(plainHead(0, 8), lines, make([]byte, 30000))
	reads(t, "more bytes in common than MaxImage", b, api.ELIMIT)
}

func TestAnyBytes(t *testing.T) {
	r := rand.New(rand.NewSource(8))
	some := []uint32{0, 1, 2, 4, 5, 7, 8, 52, 84, 255, 256, 257, 512, 1024, 4096, 65536, 0x01020400, 0xffffff00, math.MaxUint32}
	for range 20000 {
		b := written(sample())
		for range 1 + r.Intn(3) {
			at := 4 * r.Intn(45)
			binary.LittleEndian.PutUint32(b[at:], some[r.Intn(len(some))])
		}
		asTold(t, "numbers turned", b[:len(b)-r.Intn(2)*r.Intn(len(b))])
	}
	for range 2000 {
		b := make([]byte, r.Intn(300))
		r.Read(b)
		copy(b, written(sample())[:r.Intn(60)])
		asTold(t, "any bytes", b)
	}
}

func TestAnyImages(t *testing.T) {
	r := rand.New(rand.NewSource(88))
	good := 0
	for range 20000 {
		var i Image
		for range r.Intn(10) {
			s := Segment{Addr: uint32(r.Intn(64)) * 256, Size: uint32(r.Intn(700)), Perm: r.Intn(8)}
			switch r.Intn(12) {
			case 0:
				s.Addr += uint32(r.Intn(256))
			case 1:
				s.Perm = r.Intn(40) - 20
			case 2:
				s.Addr, s.Size = -s.Addr, uint32(r.Intn(30000))
			}
			s.Bytes = make([]byte, r.Intn(int(s.Size)+2))
			r.Read(s.Bytes)
			i.Segments = append(i.Segments, s)
		}
		i.Entry = uint32(r.Intn(64*64)) * 4
		if len(i.Segments) > 0 && r.Intn(2) == 0 {
			i.Entry = i.Segments[0].Addr
		}
		want := mayBe(i)
		if want == api.OK {
			good++
			fits(t, i)
		} else {
			refused(t, "any image", i, want)
		}
	}
	if good < 500 {
		t.Errorf("only %d of the images were good", good)
	}
}

func TestAnswersAreNew(t *testing.T) {
	i := sample()
	for n := range i.Segments {
		i.Segments[n].Bytes = append(make([]byte, 0, 600), i.Segments[n].Bytes...)
	}
	b, _ := Put(i)
	file := slices.Clone(b)
	for n := range b[:cap(b)] {
		b[:cap(b)][n] ^= 255
	}
	if !equal(i, sample()) {
		t.Errorf("R4: Put's answer shares its image's bytes")
	}
	wide := append(make([]byte, 0, 2*len(file)), file...)
	got, _ := Get(wide)
	for n := range got.Segments {
		own := got.Segments[n].Bytes
		for k := range own[:cap(own)] {
			own[:cap(own)][k] = byte(n) ^ 255
		}
	}
	if !bytes.Equal(wide, file) || !bytes.Equal(wide[:cap(wide)][len(file):], make([]byte, cap(wide)-len(file))) {
		t.Errorf("R4: Get's answer shares its file")
	}
	for n, s := range got.Segments {
		if slices.ContainsFunc(s.Bytes, func(v byte) bool { return v != byte(n)^255 }) {
			t.Errorf("R4: segment %d shares its bytes with another", n)
		}
	}
	again, _ := Get(wide)
	if !equal(again, sample()) {
		t.Errorf("R5: a second Get tells another image")
	}
}

func TestNoneIsEmpty(t *testing.T) {
	none := ofOne(Segment{Addr: 512, Size: 3, Perm: 4})
	empty := ofOne(Segment{Addr: 512, Size: 3, Perm: 4, Bytes: []byte{}})
	a, e := Put(none)
	b, f := Put(empty)
	if e != api.OK || f != api.OK || !bytes.Equal(a, b) {
		t.Errorf("R4: nil and an empty list: %x, %d and %x, %d", a, e, b, f)
	}
}
