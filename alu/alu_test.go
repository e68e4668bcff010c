package alu

import (
	"math"
	"math/big"
	"testing"

	"tincture/api"
)

const (
	least    = 1 << 31   // -2^31
	greatest = 1<<31 - 1 // 2^31 - 1
	ones     = 1<<32 - 1 // -1
)

// minus writes a number below 0 as its 32 bits.
func minus(v uint32) uint32 { return -v }

func TestDoExamples(t *testing.T) {
	for _, c := range []struct {
		name       string
		kind       int
		a, b, want uint32
	}{
		{"the chapter's example", 14, 7, 0, 4294967295},
		{"add", 0, 40, 2, 42},
		{"add wraps", 0, ones, 1, 0},
		{"sub", 1, 40, 2, 38},
		{"sub wraps", 1, 0, 1, ones},
		{"sll", 2, 5, 3, 40},
		{"sll by 31", 2, 3, 31, least},
		{"sll by 32 is by 0", 2, 5, 32, 5},
		{"sll by all ones is by 31", 2, 1, ones, least},
		{"slt below 0", 3, ones, 0, 1},
		{"slt above", 3, 0, ones, 0},
		{"slt alike", 3, 7, 7, 0},
		{"slt least, greatest", 3, least, greatest, 1},
		{"sltu all ones", 4, ones, 0, 0},
		{"sltu", 4, 0, ones, 1},
		{"sltu alike", 4, 7, 7, 0},
		{"xor", 5, 12, 10, 6},
		{"srl brings noughts", 6, least, 31, 1},
		{"srl by 33 is by 1", 6, ones, 33, greatest},
		{"sra brings the sign", 7, least, 31, ones},
		{"sra brings noughts", 7, greatest, 30, 1},
		{"sra by 32 is by 0", 7, least, 32, least},
		{"sra by 36 is by 4", 7, least, 36, 0xf8000000},
		{"or", 8, 12, 10, 14},
		{"and", 9, 12, 10, 8},
		{"mul", 10, 6, 7, 42},
		{"mul lowest bits", 10, 0x10001, 0x10001, 0x20001},
		{"mul minus", 10, minus(6), 7, minus(42)},
		{"mulh both with signs", 11, ones, ones, 0},
		{"mulh unlike signs", 11, ones, 1, ones},
		{"mulh least", 11, least, least, 1 << 30},
		{"mulhsu a with a sign", 12, ones, 1, ones},
		{"mulhsu b without", 12, 2, ones, 1},
		{"mulhsu least, all ones", 12, least, ones, least},
		{"mulhu both without", 13, ones, ones, ones - 1},
		{"mulhu", 13, least, 2, 1},
		{"div", 14, 7, 2, 3},
		{"div toward 0", 14, minus(7), 2, minus(3)},
		{"div by minus toward 0", 14, 7, minus(2), minus(3)},
		{"div minus by 0", 14, minus(7), 0, ones},
		{"div least by -1", 14, least, ones, least},
		{"divu", 15, ones, 2, greatest},
		{"divu by 0", 15, 7, 0, ones},
		{"divu least by all ones", 15, least, ones, 0},
		{"rem", 16, 7, 2, 1},
		{"rem has a's sign", 16, minus(7), 2, ones},
		{"rem by minus", 16, 7, minus(2), 1},
		{"rem by 0", 16, minus(7), 0, minus(7)},
		{"rem least by -1", 16, least, ones, 0},
		{"remu", 17, ones, 10, 5},
		{"remu by 0", 17, minus(7), 0, minus(7)},
		{"remu least by all ones", 17, least, ones, least},
	} {
		if got, e := Do(c.kind, c.a, c.b); got != c.want || e != api.OK {
			t.Errorf("P1.1: %s: Do(%d, %d, %d): %d, %d; want %d", c.name, c.kind, c.a, c.b, got, e, c.want)
		}
	}
}

func TestDoOfAnotherKind(t *testing.T) {
	for _, kind := range []int{-1, 18, 19, 32, 256, 1 << 32, math.MaxInt, math.MinInt} {
		if got, e := Do(kind, 7, 2); got != 0 || e != api.EARG {
			t.Errorf("P1.1: Do(%d, 7, 2): %d, %d", kind, got, e)
		}
	}
}

// TestDoBroadly holds all kinds against exact numbers, at the edges and between.
func TestDoBroadly(t *testing.T) {
	forPairs(func(a, b uint32) {
		for kind := range 18 {
			want := exact(kind, a, b)
			if got, e := Do(kind, a, b); got != want || e != api.OK {
				t.Errorf("P1.1: Do(%d, %d, %d): %d, %d; want %d", kind, a, b, got, e, want)
			}
		}
	})
}

func TestTestExamples(t *testing.T) {
	for _, c := range []struct {
		kind int
		a, b uint32
		want bool
	}{
		{0, 5, 5, true}, {0, 5, 6, false}, {0, least, 0, false},
		{1, 5, 6, true}, {1, 5, 5, false}, {1, least, 0, true},
		{4, 5, 6, true}, {4, 5, 5, false}, {4, 6, 5, false}, {4, ones, 0, true}, {4, 0, ones, false}, {4, least, greatest, true},
		{5, 5, 6, false}, {5, 5, 5, true}, {5, 6, 5, true}, {5, ones, 0, false}, {5, 0, ones, true}, {5, greatest, least, true},
		{6, 5, 6, true}, {6, 5, 5, false}, {6, 6, 5, false}, {6, ones, 0, false}, {6, 0, ones, true}, {6, least, greatest, false},
		{7, 5, 6, false}, {7, 5, 5, true}, {7, 6, 5, true}, {7, ones, 0, true}, {7, 0, ones, false}, {7, greatest, least, false},
	} {
		if got, e := Test(c.kind, c.a, c.b); got != c.want || e != api.OK {
			t.Errorf("P1.2: Test(%d, %d, %d): %v, %d", c.kind, c.a, c.b, got, e)
		}
	}
}

func TestTestOfAnotherKind(t *testing.T) {
	for _, kind := range []int{-1, 2, 3, 8, 9, 256, 1 << 32, math.MaxInt, math.MinInt} {
		for _, b := range []uint32{6, 7, 8} {
			if got, e := Test(kind, 7, b); got || e != api.EARG {
				t.Errorf("P1.2: Test(%d, 7, %d): %v, %d", kind, b, got, e)
			}
		}
	}
}

// TestTestBroadly holds all kinds against exact numbers, at the edges and between.
func TestTestBroadly(t *testing.T) {
	forPairs(func(a, b uint32) {
		withSigns := withSign(a).Cmp(withSign(b))
		without := withoutSign(a).Cmp(withoutSign(b))
		for kind, want := range map[int]bool{
			0: without == 0, 1: without != 0, 4: withSigns < 0, 5: withSigns >= 0, 6: without < 0, 7: without >= 0,
		} {
			if got, e := Test(kind, a, b); got != want || e != api.OK {
				t.Errorf("P1.2: Test(%d, %d, %d): %v, %d", kind, a, b, got, e)
			}
		}
	})
}

func TestExtend(t *testing.T) {
	for _, c := range []struct {
		v    uint32
		bits int
		want uint32
	}{
		{128, 8, 4294967168}, {127, 8, 127}, {0, 8, 0}, {255, 8, ones}, {256, 8, 0}, {0x12345680, 8, 0xffffff80}, {0xffffff7f, 8, 0x7f},
		{0x8000, 16, 0xffff8000}, {0x7fff, 16, 0x7fff}, {0, 16, 0}, {0xffff, 16, ones}, {0x10000, 16, 0}, {0x12348001, 16, 0xffff8001}, {0xffff7fff, 16, 0x7fff}, {128, 16, 128},
	} {
		if got := Extend(c.v, c.bits); got != c.want {
			t.Errorf("P1.2: Extend(%d, %d): %d; want %d", c.v, c.bits, got, c.want)
		}
	}
}

func TestExtendOfOtherBits(t *testing.T) {
	for _, bits := range []int{0, 1, 7, 9, 15, 17, 24, 31, 32, 33, 64, -8, -16, 256 + 8, 1<<32 + 8, 1<<32 + 16, math.MaxInt, math.MinInt} {
		for _, v := range []uint32{0, 128, 0x8000, 0xff80, 0x12345680, greatest, least, ones} {
			if got := Extend(v, bits); got != v {
				t.Errorf("P1.2: Extend(%d, %d): %d", v, bits, got)
			}
		}
	}
}

// forPairs goes through pairs of edges and through pairs of a fixed row of numbers.
func forPairs(do func(a, b uint32)) {
	edges := []uint32{0, 1, 2, 3, 7, 31, 32, 33, 127, 128, 255, 256, 0x7fff, 0x8000, 0xffff, 0x10000, greatest - 1, greatest, least, least + 1, minus(33), minus(32), minus(31), minus(7), minus(2), ones}
	for _, a := range edges {
		for _, b := range edges {
			do(a, b)
		}
	}
	a, b := uint32(1), uint32(2)
	for range 2000 {
		a = a*1664525 + 1013904223
		b = b*22695477 + 1
		do(a, b)
		do(a, b>>16)
		do(a, b&31)
	}
}

func withSign(v uint32) *big.Int { return big.NewInt(int64(int32(v))) }

func withoutSign(v uint32) *big.Int { return big.NewInt(int64(v)) }

// lowest cuts an exact number, also one below 0, down to 32 bits.
func lowest(v *big.Int) uint32 {
	return uint32(new(big.Int).And(v, big.NewInt(ones)).Uint64())
}

func truth(is bool) uint32 {
	if is {
		return 1
	}
	return 0
}

// exact is Do, reckoned without any bound on the numbers.
func exact(kind int, a, b uint32) uint32 {
	sa, sb, ua, ub := withSign(a), withSign(b), withoutSign(a), withoutSign(b)
	far := uint(b % 32)
	out := new(big.Int)
	switch kind {
	case 0:
		out.Add(ua, ub)
	case 1:
		out.Sub(ua, ub)
	case 2:
		out.Lsh(ua, far)
	case 3:
		return truth(sa.Cmp(sb) < 0)
	case 4:
		return truth(ua.Cmp(ub) < 0)
	case 5:
		out.Xor(ua, ub)
	case 6:
		out.Rsh(ua, far)
	case 7:
		out.Rsh(sa, far)
	case 8:
		out.Or(ua, ub)
	case 9:
		out.And(ua, ub)
	case 10:
		out.Mul(ua, ub)
	case 11:
		out.Rsh(out.Mul(sa, sb), 32)
	case 12:
		out.Rsh(out.Mul(sa, ub), 32)
	case 13:
		out.Rsh(out.Mul(ua, ub), 32)
	default:
		return exactByDivision(kind, a, b)
	}
	return lowest(out)
}

func exactByDivision(kind int, a, b uint32) uint32 {
	if b == 0 {
		if kind == 14 || kind == 15 {
			return ones
		}
		return a
	}
	out := new(big.Int)
	switch kind {
	case 14:
		out.Quo(withSign(a), withSign(b))
	case 15:
		out.Quo(withoutSign(a), withoutSign(b))
	case 16:
		out.Rem(withSign(a), withSign(b))
	case 17:
		out.Rem(withoutSign(a), withoutSign(b))
	}
	return lowest(out)
}
