package tag

import (
	"math"
	"testing"

	"tincture/alu"
	"tincture/api"
)

const ones = 1<<32 - 1

func TestAllAndFill(t *testing.T) {
	for _, c := range []struct {
		t    api.Tag
		want byte
	}{
		{api.Tag{}, 0}, {api.Tag{1}, 1}, {api.Tag{0, 2}, 2}, {api.Tag{0, 0, 4}, 4}, {api.Tag{0, 0, 0, 128}, 128},
		{api.Tag{1, 2, 4, 8}, 15}, {api.Tag{3, 3, 6, 6}, 7}, {api.Tag{255, 1, 0, 1}, 255},
	} {
		if got := All(c.t); got != c.want {
			t.Errorf("P2.1: All(%v): %d; want %d", c.t, got, c.want)
		}
	}
	for l := range 256 {
		want := api.Tag{byte(l), byte(l), byte(l), byte(l)}
		if got := Fill(byte(l)); got != want {
			t.Errorf("P2.1: Fill(%d): %v", l, got)
		}
	}
}

func TestJoin(t *testing.T) {
	for _, c := range []struct{ a, b, want api.Tag }{
		{api.Tag{}, api.Tag{}, api.Tag{}},
		{api.Tag{1, 2, 4, 8}, api.Tag{}, api.Tag{1, 2, 4, 8}},
		{api.Tag{}, api.Tag{1, 2, 4, 8}, api.Tag{1, 2, 4, 8}},
		{api.Tag{1, 2, 4, 8}, api.Tag{16, 0, 1, 8}, api.Tag{17, 2, 5, 8}},
		{api.Tag{255, 128}, api.Tag{255, 1, 0, 2}, api.Tag{255, 129, 0, 2}},
	} {
		if got := Join(c.a, c.b); got != c.want {
			t.Errorf("P2.1: Join(%v, %v): %v; want %v", c.a, c.b, got, c.want)
		}
	}
}

func TestUp(t *testing.T) {
	for _, c := range []struct{ t, want api.Tag }{
		{api.Tag{}, api.Tag{}},
		{api.Tag{1, 2, 4, 8}, api.Tag{1, 3, 7, 15}},
		{api.Tag{1}, api.Tag{1, 1, 1, 1}},
		{api.Tag{0, 2}, api.Tag{0, 2, 2, 2}},
		{api.Tag{0, 0, 4}, api.Tag{0, 0, 4, 4}},
		{api.Tag{0, 0, 0, 8}, api.Tag{0, 0, 0, 8}},
		{api.Tag{128, 0, 128, 1}, api.Tag{128, 128, 128, 129}},
	} {
		if got := Up(c.t); got != c.want {
			t.Errorf("P2.1: Up(%v): %v; want %v", c.t, got, c.want)
		}
	}
}

func TestNarrow(t *testing.T) {
	for _, c := range []struct {
		t      api.Tag
		size   int
		signed bool
		want   api.Tag
	}{
		{api.Tag{1, 2, 4, 8}, 1, false, api.Tag{1, 0, 0, 0}},
		{api.Tag{1, 2, 4, 8}, 1, true, api.Tag{1, 1, 1, 1}},
		{api.Tag{1, 2, 4, 8}, 2, false, api.Tag{1, 2, 0, 0}},
		{api.Tag{1, 2, 4, 8}, 2, true, api.Tag{1, 2, 2, 2}},
		{api.Tag{0, 2, 4, 8}, 1, true, api.Tag{}},
		{api.Tag{1, 0, 4, 8}, 2, true, api.Tag{1, 0, 0, 0}},
		{api.Tag{}, 1, true, api.Tag{}},
	} {
		if got := Narrow(c.t, c.size, c.signed); got != c.want {
			t.Errorf("P2.1: Narrow(%v, %d, %v): %v; want %v", c.t, c.size, c.signed, got, c.want)
		}
	}
}

func TestNarrowOfOtherSizes(t *testing.T) {
	for _, size := range []int{0, 3, 4, 5, 8, 16, -1, -2, 1<<32 + 1, 1<<32 + 2, 256 + 1, math.MaxInt, math.MinInt} {
		for _, signed := range []bool{false, true} {
			was := api.Tag{1, 2, 4, 8}
			if got := Narrow(was, size, signed); got != was {
				t.Errorf("P2.1: Narrow(%v, %d, %v): %v", was, size, signed, got)
			}
		}
	}
}

// flowCase is a case of Flow, whose numbers a and b count for and and the shifts alone.
type flowCase struct {
	kind       int
	a, b       uint32
	s, t, want api.Tag
}

func checkFlow(t *testing.T, cases []flowCase) {
	t.Helper()
	for _, c := range cases {
		if got, e := Flow(c.kind, c.a, c.b, c.s, c.t); got != c.want || e != api.OK {
			t.Errorf("P2.2: Flow(%d, %#x, %#x, %v, %v): %v, %d; want %v", c.kind, c.a, c.b, c.s, c.t, got, e, c.want)
		}
	}
}

func TestFlowOfSumsAndProducts(t *testing.T) {
	s, u := api.Tag{1, 2}, api.Tag{4, 0, 8}
	checkFlow(t, []flowCase{
		{0, 0, 0, api.Tag{1}, api.Tag{0, 2}, api.Tag{1, 3, 3, 3}},
		{0, 5, 6, s, u, api.Tag{5, 7, 15, 15}},
		{1, 5, 6, s, u, api.Tag{5, 7, 15, 15}},
		{10, 5, 6, s, u, api.Tag{5, 7, 15, 15}},
		{10, 0, 0, s, u, api.Tag{5, 7, 15, 15}},
		{0, 0, 0, api.Tag{}, api.Tag{0, 0, 0, 9}, api.Tag{0, 0, 0, 9}},
		{1, 0, 0, api.Tag{0, 0, 1}, api.Tag{}, api.Tag{0, 0, 1, 1}},
	})
	for _, kind := range []int{11, 12, 13, 14, 15, 16, 17} {
		checkFlow(t, []flowCase{
			{kind, 5, 6, s, u, Fill(15)},
			{kind, 0, 0, api.Tag{0, 0, 0, 1}, api.Tag{}, Fill(1)},
			{kind, 0, 0, api.Tag{}, api.Tag{0, 0, 2}, Fill(2)},
			{kind, ones, ones, api.Tag{}, api.Tag{}, api.Tag{}},
		})
	}
}

func TestFlowOfBits(t *testing.T) {
	for _, kind := range []int{5, 8} {
		checkFlow(t, []flowCase{
			{kind, 0, 0, api.Tag{1, 2}, api.Tag{4, 0, 8}, api.Tag{5, 2, 8, 0}},
			{kind, ones, ones, api.Tag{1, 2}, api.Tag{1, 0, 8, 16}, api.Tag{1, 2, 8, 16}},
		})
	}
	all := Fill(1)
	checkFlow(t, []flowCase{
		{9, 0, 0, api.Tag{}, all, api.Tag{}},
		{9, 0, 0, all, api.Tag{}, api.Tag{}},
		{9, 0x00ff0100, ones, api.Tag{}, all, api.Tag{0, 1, 1, 0}},
		{9, ones, 0x80000001, all, api.Tag{}, api.Tag{1, 0, 0, 1}},
		// A nought that bears a label settles nothing.
		{9, 0, 0, api.Tag{1, 0, 1, 0}, api.Tag{2, 2, 0, 0}, api.Tag{3, 0, 0, 0}},
		{9, 0, ones, api.Tag{1, 1, 1, 1}, api.Tag{2, 0, 2, 0}, api.Tag{3, 1, 3, 1}},
		{9, ones, 0, api.Tag{2, 0, 2, 0}, api.Tag{1, 1, 1, 1}, api.Tag{3, 1, 3, 1}},
		{9, ones, ones, api.Tag{1, 2, 4, 8}, api.Tag{16, 32, 64, 128}, api.Tag{17, 34, 68, 136}},
	})
}

func TestFlowOfShifts(t *testing.T) {
	s, none := api.Tag{1, 2, 4, 8}, api.Tag{}
	checkFlow(t, []flowCase{
		{2, 0, 0, s, none, s}, {2, 0, 8, s, none, api.Tag{0, 1, 2, 4}}, {2, 0, 16, s, none, api.Tag{0, 0, 1, 2}}, {2, 0, 24, s, none, api.Tag{0, 0, 0, 1}},
		{2, 0, 1, s, none, api.Tag{1, 3, 6, 12}}, {2, 0, 7, s, none, api.Tag{1, 3, 6, 12}}, {2, 0, 9, s, none, api.Tag{0, 1, 3, 6}}, {2, 0, 31, s, none, api.Tag{0, 0, 0, 1}},
		{6, 0, 0, s, none, s}, {6, 0, 8, s, none, api.Tag{2, 4, 8, 0}}, {6, 0, 16, s, none, api.Tag{4, 8, 0, 0}}, {6, 0, 24, s, none, api.Tag{8, 0, 0, 0}},
		{6, 0, 1, s, none, api.Tag{3, 6, 12, 8}}, {6, 0, 7, s, none, api.Tag{3, 6, 12, 8}}, {6, 0, 9, s, none, api.Tag{6, 12, 8, 0}}, {6, 0, 31, s, none, api.Tag{8, 0, 0, 0}},
		{7, 0, 0, s, none, s}, {7, 0, 8, s, none, api.Tag{2, 4, 8, 8}}, {7, 0, 16, s, none, api.Tag{4, 8, 8, 8}}, {7, 0, 24, s, none, api.Tag{8, 8, 8, 8}},
		{7, 0, 1, s, none, api.Tag{3, 6, 12, 8}}, {7, 0, 9, s, none, api.Tag{6, 12, 8, 8}}, {7, 0, 20, s, none, api.Tag{12, 8, 8, 8}}, {7, 0, 31, s, none, api.Tag{8, 8, 8, 8}},
		// The sign that is spread is a's, whatever it is; it may be clean.
		{7, 1 << 31, 20, s, none, api.Tag{12, 8, 8, 8}}, {7, ones, 9, api.Tag{1, 2, 4, 0}, none, api.Tag{6, 4, 0, 0}},
		// Five bits of the count count.
		{2, 0, 32, s, none, s}, {6, 0, 40, s, none, api.Tag{2, 4, 8, 0}}, {7, 0, ones, s, none, api.Tag{8, 8, 8, 8}}, {2, 0, ones, s, none, api.Tag{0, 0, 0, 1}},
	})
}

func TestFlowOfShiftsByLabelledCounts(t *testing.T) {
	for _, kind := range []int{2, 6, 7} {
		for _, b := range []uint32{0, 1, 8, 31, 32, 255} {
			checkFlow(t, []flowCase{
				{kind, 7, b, api.Tag{1, 2, 4, 8}, api.Tag{16}, Fill(31)},
				{kind, 7, b, api.Tag{0, 0, 0, 1}, api.Tag{2}, Fill(3)},
				{kind, 0, b, api.Tag{}, api.Tag{16}, Fill(16)},
				{kind, 7, b, api.Tag{}, api.Tag{128, 1, 2, 4}, Fill(128)},
				{kind, 7, b, api.Tag{}, api.Tag{0, 1, 2, 4}, api.Tag{}},
			})
		}
		checkFlow(t, []flowCase{{kind, 7, 0, api.Tag{1, 2, 4, 8}, api.Tag{0, 255, 255, 255}, api.Tag{1, 2, 4, 8}}})
	}
}

func TestFlowOfComparisons(t *testing.T) {
	for _, kind := range []int{3, 4} {
		checkFlow(t, []flowCase{
			{kind, 0, 0, api.Tag{0, 0, 0, 1}, api.Tag{2}, api.Tag{3}},
			{kind, 5, ones, api.Tag{1, 2, 4, 8}, api.Tag{16, 32, 64, 128}, api.Tag{255}},
			{kind, ones, 5, api.Tag{}, api.Tag{0, 2}, api.Tag{2}},
			{kind, 5, 5, api.Tag{0, 0, 4}, api.Tag{}, api.Tag{4}},
			{kind, 5, 6, api.Tag{}, api.Tag{}, api.Tag{}},
		})
	}
}

func TestFlowOfAnotherKind(t *testing.T) {
	for _, kind := range []int{-1, 18, 19, 32, 256, 1 << 32, 1<<32 + 5, math.MaxInt, math.MinInt} {
		if got, e := Flow(kind, 1, 1, api.Tag{1, 2, 4, 8}, api.Tag{1}); got != (api.Tag{}) || e != api.EARG {
			t.Errorf("P2.2: Flow(%d, ..): %v, %d", kind, got, e)
		}
	}
}

// TestFlowOfShiftsBitByBit holds each count against where the bits of a number, each with its own label, go.
func TestFlowOfShiftsBitByBit(t *testing.T) {
	for _, s := range []api.Tag{{1, 2, 4, 8}, {0, 2, 4, 8}, {1, 0, 4, 8}, {1, 2, 0, 8}, {1, 2, 4, 0}, {3, 6, 12, 24}} {
		for b := range uint32(70) {
			for _, kind := range []int{2, 6, 7} {
				checkFlow(t, []flowCase{{kind, 0x80402010, b, s, api.Tag{}, bitByBit(kind, int(b%32), s)}})
			}
		}
	}
}

func bitByBit(kind, count int, s api.Tag) api.Tag {
	var out api.Tag
	for place := range 32 {
		from := place + count
		if kind == 2 {
			from = place - count
		}
		if kind == 7 {
			from = min(from, 31)
		}
		if from >= 0 && from < 32 {
			out[place/8] |= s[from/8]
		}
	}
	return out
}

// TestFlowMissesNothing changes bytes that bear a label: a byte that changes in what is reckoned must bear it too.
func TestFlowMissesNothing(t *testing.T) {
	x := uint32(1)
	next := func() uint32 {
		x = x*1664525 + 1013904223
		return x>>16 | x<<16
	}
	for i := range 20000 {
		a, b, which := next(), next(), next()
		if i%2 == 0 { // Bytes that are 0, and short counts, are else too seldom.
			a, b = a&spread(next()), b&spread(next())&0xff00ff1f
		}
		s, u := marked(which), marked(which>>4)
		otherA, otherB := a^next()&spread(which), b^next()&spread(which>>4)
		for kind := range 18 {
			was, _ := alu.Do(kind, a, b)
			is, _ := alu.Do(kind, otherA, otherB)
			labels, e := Flow(kind, a, b, s, u)
			if e != api.OK || (was^is)&^spreadTag(labels) != 0 {
				t.Errorf("P2.2: Flow(%d, %#x, %#x, %v, %v): %v, %d: %#x could be %#x", kind, a, b, s, u, labels, e, was, is)
			}
		}
	}
}

// marked gives the label 1 to the bytes of which which's four lowest bits tell.
func marked(which uint32) api.Tag {
	var t api.Tag
	for i := range t {
		t[i] = byte(which >> i & 1)
	}
	return t
}

// spread makes each of which's four lowest bits a byte of ones.
func spread(which uint32) uint32 { return spreadTag(marked(which)) }

func spreadTag(t api.Tag) uint32 {
	var v uint32
	for i, label := range t {
		if label != 0 {
			v |= 0xff << (8 * i)
		}
	}
	return v
}
