package policy

import (
	"bytes"
	"encoding/binary"
	"math"
	"math/rand"
	"slices"
	"testing"

	"tincture/api"
)

// written lays a policy out as the chapter's paragraph 'Bytes' has it, whether
// or not it may be, cutting each number to its place's size.
func written(p Policy) []byte {
	var b bytes.Buffer
	b.WriteString("TP1")
	binary.Write(&b, binary.LittleEndian, p.Pointer)
	b.WriteByte(byte(len(p.Sources)))
	for _, s := range p.Sources {
		binary.Write(&b, binary.LittleEndian, struct {
			Kind     uint8
			Arg, Len uint32
			Label    uint8
		}{uint8(s.Kind), s.Arg, s.Len, s.Label})
	}
	b.WriteByte(byte(len(p.Sinks)))
	for _, s := range p.Sinks {
		b.Write([]byte{byte(s.Kind), byte(s.Arg), s.Mask})
	}
	return b.Bytes()
}

func equal(p, q Policy) bool {
	return p.Pointer == q.Pointer && slices.Equal(p.Sources, q.Sources) && slices.Equal(p.Sinks, q.Sinks)
}

func isZero(p Policy) bool { return equal(p, Policy{}) }

// fits holds that a policy and its bytes go there and back.
func fits(t *testing.T, p Policy) {
	t.Helper()
	want := written(p)
	if b, e := Put(p); e != api.OK || !bytes.Equal(b, want) {
		t.Errorf("P7.1: Put(%+v): %x, %d, want %x", p, b, e, want)
	}
	if q, e := Get(want); e != api.OK || !equal(q, p) {
		t.Errorf("P7.1: Get(%x): %+v, %d, want %+v", want, q, e, p)
	}
}

// refused holds that a policy has no bytes.
func refused(t *testing.T, p Policy) {
	t.Helper()
	if b, e := Put(p); e != api.EARG || len(b) != 0 {
		t.Errorf("P7.1: Put(%+v): %x, %d, want EARG", p, b, e)
	}
}

func formless(t *testing.T, b []byte) {
	t.Helper()
	if p, e := Get(b); e != api.EFORM || !isZero(p) {
		t.Errorf("P7.1: Get(%x): %+v, %d, want EFORM", b, p, e)
	}
}

func ofSource(s Source) Policy { return Policy{Sources: []Source{s}} }

func ofSink(s Sink) Policy { return Policy{Sinks: []Sink{s}} }

// sample has each kind of source and of sink, some of them twice.
func sample() Policy {
	return Policy{
		Pointer: true,
		Sources: []Source{
			{Kind: 1, Arg: 0, Label: 1},
			{Kind: 4, Arg: 0x01020304, Len: 0x05060708, Label: 128},
			{Kind: 2, Label: 2},
			{Kind: 1, Arg: math.MaxUint32, Label: 8},
			{Kind: 3, Label: 4},
			{Kind: 5, Label: 16},
			{Kind: 1, Arg: 0, Label: 32},
			{Kind: 2, Label: 66},
			{Kind: 3, Label: 1},
			{Kind: 5, Label: 16},
		},
		Sinks: []Sink{
			{Kind: 1, Mask: 255},
			{Kind: 4, Arg: 6, Mask: 1},
			{Kind: 2, Mask: 3},
			{Kind: 4, Arg: 0, Mask: 1},
			{Kind: 3, Mask: 4},
			{Kind: 5, Mask: 8},
			{Kind: 1, Mask: 128},
			{Kind: 4, Arg: 6, Mask: 2},
			{Kind: 5, Mask: 12},
		},
	}
}

// many has that many rules of each sort.
func many(sources, sinks int) Policy {
	var p Policy
	for i := range sources {
		p.Sources = append(p.Sources, Source{Kind: 1, Arg: uint32(i), Label: byte(i + 1)})
	}
	for i := range sinks {
		p.Sinks = append(p.Sinks, Sink{Kind: 4, Arg: i % 7, Mask: byte(255 - i)})
	}
	return p
}

func TestExamples(t *testing.T) {
	if p, e := Get([]byte("TP1\x00\x00\x00")); e != api.OK || !isZero(p) {
		t.Errorf("P7.1: the chapter's example: %+v, %d", p, e)
	}
	formless(t, []byte("TP1\x02\x00\x00"))
	fits(t, Policy{})
	fits(t, Policy{Pointer: true, Sources: []Source{}, Sinks: []Sink{}})
}

func TestLayout(t *testing.T) {
	p := Policy{
		Pointer: true,
		Sources: []Source{{Kind: 4, Arg: 0x01020304, Len: 0x05060708, Label: 9}, {Kind: 1, Arg: 3, Label: 255}},
		Sinks:   []Sink{{Kind: 4, Arg: 6, Mask: 7}, {Kind: 5, Mask: 255}},
	}
	want := []byte{'T', 'P', '1', 1,
		2, 4, 4, 3, 2, 1, 8, 7, 6, 5, 9, 1, 3, 0, 0, 0, 0, 0, 0, 0, 255,
		2, 4, 6, 7, 5, 0, 255}
	if b, e := Put(p); e != api.OK || !bytes.Equal(b, want) {
		t.Errorf("P7.1: Put: %v, %d, want %v", b, e, want)
	}
	if q, e := Get(want); e != api.OK || !equal(q, p) {
		t.Errorf("P7.1: Get: %+v, %d, want %+v", q, e, p)
	}
	fits(t, sample())
}

func TestLengths(t *testing.T) {
	for _, p := range []Policy{{}, sample(), many(1, 0), many(0, 1), many(32, 32)} {
		b := written(p)
		for n := range b {
			formless(t, b[:n])
		}
		for _, more := range [][]byte{{0}, {255}, {0, 0}, {1, 0, 1}, b} {
			formless(t, slices.Concat(b, more))
		}
	}
	formless(t, nil)
	formless(t, []byte{})
}

func TestBeginning(t *testing.T) {
	b := written(sample())
	for at := range 3 {
		for _, change := range []byte{1, 32, 128, 255} {
			c := slices.Clone(b)
			c[at] ^= change
			formless(t, c)
		}
	}
	for pointer := 2; pointer < 256; pointer++ {
		c := slices.Clone(b)
		c[3] = byte(pointer)
		formless(t, c)
	}
	formless(t, slices.Concat([]byte{' '}, b))
}

func TestCounts(t *testing.T) {
	for _, n := range []int{1, 2, 31, 32} {
		fits(t, many(n, 0))
		fits(t, many(0, n))
		fits(t, many(n, n))
	}
	for _, n := range []int{33, 34, 64, 128, 255} {
		for _, p := range []Policy{many(n, 0), many(0, n), many(n, n), many(1, n), many(n, 1)} {
			for i := range p.Sources {
				p.Sources[i].Label |= 1
			}
			for i := range p.Sinks {
				p.Sinks[i].Mask |= 1
			}
			refused(t, p)
			formless(t, written(p))
		}
	}
	// A count that would be cut to a byte, and one to noughts.
	for _, n := range []int{256, 257, 288, 65536} {
		refused(t, Policy{Sources: slices.Repeat([]Source{{Kind: 2, Label: 1}}, n)})
		refused(t, Policy{Sinks: slices.Repeat([]Sink{{Kind: 1, Mask: 1}}, n)})
	}
}

func TestSourceKinds(t *testing.T) {
	for kind := range 256 {
		s := Source{Kind: kind, Label: 1}
		if kind == 4 {
			s.Len = 1
		}
		if kind >= 1 && kind <= 5 {
			fits(t, ofSource(s))
			continue
		}
		for _, size := range []uint32{0, 1} {
			s.Len = size
			refused(t, ofSource(s))
			formless(t, written(ofSource(s)))
		}
	}
	for _, kind := range []int{math.MinInt, -255, -251, -1, 256, 257, 258, 260, 261, 1<<32 + 1, math.MaxInt} {
		refused(t, ofSource(Source{Kind: kind, Label: 1}))
		refused(t, ofSource(Source{Kind: kind, Len: 1, Label: 1}))
	}
}

// mayStand is the chapter's bounds of a source's Arg and Len, in whole numbers.
func mayStand(kind int, arg, size int64) bool {
	switch kind {
	case 1:
		return size == 0
	case 4:
		return size > 0 && arg+size <= 4294967296
	}
	return arg == 0 && size == 0
}

func TestSourceNumbers(t *testing.T) {
	numbers := []uint32{0, 1, 2, 255, 256, 257, 65536, 1 << 24, 1<<31 - 1, 1 << 31, 1<<31 + 1, 0xffffff00, 0xfffffffe, 0xffffffff}
	for kind := 1; kind <= 5; kind++ {
		for _, arg := range numbers {
			for _, size := range numbers {
				p := ofSource(Source{Kind: kind, Arg: arg, Len: size, Label: 1})
				if mayStand(kind, int64(arg), int64(size)) {
					fits(t, p)
					continue
				}
				refused(t, p)
				formless(t, written(p))
			}
		}
	}
}

func TestLabelsNotClean(t *testing.T) {
	for kind := 1; kind <= 5; kind++ {
		for label := range 256 {
			s := Source{Kind: kind, Label: byte(label)}
			if kind == 4 {
				s.Len = 1
			}
			k := Sink{Kind: kind, Mask: byte(label)}
			if label > 0 {
				fits(t, Policy{Sources: []Source{s}, Sinks: []Sink{k}})
				continue
			}
			for _, p := range []Policy{ofSource(s), ofSink(k)} {
				refused(t, p)
				formless(t, written(p))
			}
		}
	}
}

func TestSinks(t *testing.T) {
	for kind := range 256 {
		for arg := range 256 {
			p := ofSink(Sink{Kind: kind, Arg: arg, Mask: 128})
			if kind >= 1 && kind <= 5 && (arg == 0 || kind == 4 && arg <= 6) {
				fits(t, p)
				continue
			}
			refused(t, p)
			formless(t, written(p))
		}
	}
	for _, n := range []int{math.MinInt, -256, -252, -1, 256, 257, 260, 262, 1<<32 + 4, math.MaxInt} {
		refused(t, ofSink(Sink{Kind: n, Mask: 1}))
		for kind := 1; kind <= 5; kind++ {
			refused(t, ofSink(Sink{Kind: kind, Arg: n, Mask: 1}))
		}
	}
}

// A rule that may not be is found at each place, among others that may.
func TestEveryPlace(t *testing.T) {
	for place := range api.MaxRules {
		p := many(32, 32)
		p.Sources[place].Label = 0
		refused(t, p)
		formless(t, written(p))
		p = many(32, 32)
		p.Sinks[place].Mask = 0
		refused(t, p)
		formless(t, written(p))
	}
}

func TestLabel(t *testing.T) {
	p := sample()
	for _, c := range []struct {
		kind int
		arg  uint32
		want byte
	}{
		{1, 0, 33}, {1, math.MaxUint32, 8}, {1, 1, 0}, {1, 1 << 31, 0},
		{2, 0, 66}, {2, 5, 66}, {2, math.MaxUint32, 66},
		{3, 0, 5}, {3, 5, 5}, {5, 0, 16}, {5, 9, 16},
		{4, 0, 0}, {4, 0x01020304, 0}, {4, 0x01020305, 0},
		{0, 0, 0}, {6, 0, 0}, {-1, 0, 0}, {257, 0, 0}, {math.MinInt, 0, 0}, {math.MaxInt, 0, 0},
	} {
		if got := p.Label(c.kind, c.arg); got != c.want {
			t.Errorf("P7.1: Label(%d, %d): %d, want %d", c.kind, c.arg, got, c.want)
		}
	}
	for kind := -1; kind < 8; kind++ {
		if got := (Policy{}).Label(kind, 0); got != 0 {
			t.Errorf("P7.1: Label(%d, 0) without sources: %d", kind, got)
		}
	}
}

// Kinds that are none have no label, even where someone made a source of one;
// of Kinds 2, 3, 5 any source counts, whatever its Arg.
func TestLabelOfOddSources(t *testing.T) {
	for _, kind := range []int{math.MinInt, -1, 0, 4, 6, 257, math.MaxInt} {
		if got := ofSource(Source{Kind: kind, Label: 1}).Label(kind, 0); got != 0 {
			t.Errorf("P7.1: Label(%d, 0): %d, want 0", kind, got)
		}
	}
	for _, kind := range []int{2, 3, 5} {
		if got := ofSource(Source{Kind: kind, Arg: 3, Label: 1}).Label(kind, 4); got != 1 {
			t.Errorf("P7.1: Label(%d, 4): %d, want 1", kind, got)
		}
	}
}

func TestHits(t *testing.T) {
	p := sample()
	for _, c := range []struct {
		kind, arg int
		l         byte
		want      []int
	}{
		{1, 0, 1, []int{0}}, {1, 0, 128, []int{0, 6}}, {1, 0, 255, []int{0, 6}}, {1, 7, 129, []int{0, 6}}, {1, -1, 127, []int{0}},
		{2, 0, 1, []int{2}}, {2, 0, 2, []int{2}}, {2, 0, 252, nil}, {2, 0, 6, []int{2}},
		{3, 0, 4, []int{4}}, {3, 0, 251, nil},
		{4, 0, 1, []int{3}}, {4, 0, 2, nil}, {4, 6, 1, []int{1}}, {4, 6, 2, []int{7}}, {4, 6, 3, []int{1, 7}}, {4, 6, 252, nil},
		{4, 1, 255, nil}, {4, 5, 255, nil}, {4, 7, 255, nil}, {4, -1, 255, nil}, {4, 256, 255, nil}, {4, 262, 255, nil},
		{5, 0, 8, []int{5, 8}}, {5, 0, 4, []int{8}}, {5, 3, 12, []int{5, 8}},
		{0, 0, 255, nil}, {6, 0, 255, nil}, {-1, 0, 255, nil}, {257, 0, 255, nil}, {math.MinInt, math.MaxInt, 255, nil},
	} {
		if got := p.Hits(c.kind, c.arg, c.l); !slices.Equal(got, c.want) {
			t.Errorf("P7.1: Hits(%d, %d, %d): %v, want %v", c.kind, c.arg, c.l, got, c.want)
		}
	}
	for kind := -1; kind < 8; kind++ {
		if got := p.Hits(kind, 0, 0); len(got) != 0 {
			t.Errorf("P7.1: Hits(%d, 0, 0): %v", kind, got)
		}
		if got := (Policy{}).Hits(kind, 0, 255); len(got) != 0 {
			t.Errorf("P7.1: Hits(%d, 0, 255) without sinks: %v", kind, got)
		}
	}
}

func TestHitsOfEachArg(t *testing.T) {
	var p Policy
	for place := range 21 {
		p.Sinks = append(p.Sinks, Sink{Kind: 4, Arg: (place * 3) % 7, Mask: 1 << (place / 7)})
	}
	for arg := range 7 {
		for l := range 256 {
			var want []int
			for place := range 21 {
				if place*3%7 == arg && l>>(place/7)&1 == 1 {
					want = append(want, place)
				}
			}
			if got := p.Hits(4, arg, byte(l)); !slices.Equal(got, want) {
				t.Errorf("P7.1: Hits(4, %d, %d): %v, want %v", arg, l, got, want)
			}
		}
	}
}

// What comes in is left as it is, what goes out is new.
func TestMemory(t *testing.T) {
	b := slices.Grow(written(sample()), 64)
	full := b[:cap(b)]
	for i := len(b); i < len(full); i++ {
		full[i] = 0xaa
	}
	before := slices.Clone(full)
	p, _ := Get(b)
	q, _ := Get(b)
	if !bytes.Equal(full, before) {
		t.Errorf("R4: Get changed its bytes")
	}
	clear(full)
	p.Sources[0].Label = 99
	p.Sinks[0].Mask = 99
	_ = append(p.Sources, Source{Kind: 9})
	if !equal(q, sample()) {
		t.Errorf("R4: policies share memory: %+v", q)
	}
	c, _ := Put(q)
	d, _ := Put(q)
	clear(c[:cap(c)])
	if !bytes.Equal(d, written(sample())) || !equal(q, sample()) {
		t.Errorf("R4: Put's bytes share memory")
	}
	x, y := q.Hits(1, 0, 255), q.Hits(1, 0, 255)
	x[0] = 99
	if y[0] != 0 || !equal(q, sample()) {
		t.Errorf("R4: Hits share memory: %v", y)
	}
	p.Sources, p.Sinks = many(33, 0).Sources, sample().Sinks
	before, kept := written(p), p
	if _, e := Put(p); e != api.EARG || !bytes.Equal(written(kept), before) {
		t.Errorf("R3: Put that is refused changed its policy")
	}
}

// Whatever the bytes: an error, or a policy whose bytes are just those.
func TestAnyBytes(t *testing.T) {
	r := rand.New(rand.NewSource(7))
	got := 0
	for range 200000 {
		b := written(many(r.Intn(4), r.Intn(4)))
		for range r.Intn(4) {
			b[r.Intn(len(b))] = byte(r.Intn(8))
		}
		if r.Intn(4) == 0 {
			b = b[:r.Intn(len(b)+1)]
		}
		p, e := Get(b)
		if e == api.EFORM && isZero(p) {
			continue
		}
		got++
		back, pe := Put(p)
		if e != api.OK || pe != api.OK || !bytes.Equal(back, b) {
			t.Fatalf("P7.1: Get(%x): %+v, %d; Put: %x, %d", b, p, e, back, pe)
		}
	}
	if got < 1000 {
		t.Errorf("P7.1: only %d of the bytes were a policy", got)
	}
}
