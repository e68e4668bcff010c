package rv

import (
	"math"
	"math/rand"
	"testing"

	"tincture/api"
)

// row is the chapter's table, an instruction each. funct3, funct7 -1: the word
// has none there.
type row struct {
	name                   string
	opcode, funct3, funct7 int
	rd, rs1, rs2           bool
	least, most, step      int64 // of Imm
	// places has the word's bits in which Imm's bits lie, Imm's lowest first; -1: nowhere.
	places []int
}

func span(from, to int) []int {
	var s []int
	for i := from; i <= to; i++ {
		s = append(s, i)
	}
	return s
}

func joined(parts ...[]int) []int {
	var s []int
	for _, p := range parts {
		s = append(s, p...)
	}
	return s
}

// rows is the table, from Op 1 on: written from the chapter and RISC-V's own
// layouts, and from nothing that the package has.
func rows() []row {
	nowhere := []int{-1}
	uPlaces := joined([]int{-1, -1, -1, -1, -1, -1, -1, -1, -1, -1, -1, -1}, span(12, 31))
	jPlaces := joined(nowhere, span(21, 30), []int{20}, span(12, 19), []int{31})
	bPlaces := joined(nowhere, span(8, 11), span(25, 30), []int{7, 31})
	sPlaces := joined(span(7, 11), span(25, 31))
	iPlaces := span(20, 31)

	upperRow := func(name string, opcode int) row {
		return row{name, opcode, -1, -1, true, false, false, math.MinInt32, math.MaxInt32 - 4095, 4096, uPlaces}
	}
	twelve := func(name string, opcode, funct3 int) row {
		return row{name, opcode, funct3, -1, true, true, false, -2048, 2047, 1, iPlaces}
	}
	all := []row{
		upperRow("lui", 55), upperRow("auipc", 23),
		{"jal", 111, -1, -1, true, false, false, -1048576, 1048574, 2, jPlaces},
		twelve("jalr", 103, 0),
	}
	for i, name := range []string{"beq", "bne", "blt", "bge", "bltu", "bgeu"} {
		all = append(all, row{name, 99, []int{0, 1, 4, 5, 6, 7}[i], -1, false, true, true, -4096, 4094, 2, bPlaces})
	}
	for i, name := range []string{"lb", "lh", "lw", "lbu", "lhu"} {
		all = append(all, twelve(name, 3, []int{0, 1, 2, 4, 5}[i]))
	}
	for i, name := range []string{"sb", "sh", "sw"} {
		all = append(all, row{name, 35, i, -1, false, true, true, -2048, 2047, 1, sPlaces})
	}
	for i, name := range []string{"addi", "slti", "sltiu", "xori", "ori", "andi"} {
		all = append(all, twelve(name, 19, []int{0, 2, 3, 4, 6, 7}[i]))
	}
	for i, name := range []string{"slli", "srli", "srai"} {
		all = append(all, row{name, 19, []int{1, 5, 5}[i], []int{0, 0, 32}[i], true, true, false, 0, 31, 1, span(20, 24)})
	}
	for i, name := range []string{"add", "sub", "sll", "slt", "sltu", "xor", "srl", "sra", "or", "and"} {
		funct7 := 0
		if name == "sub" || name == "sra" {
			funct7 = 32
		}
		all = append(all, row{name, 51, []int{0, 0, 1, 2, 3, 4, 5, 5, 6, 7}[i], funct7, true, true, true, 0, 0, 1, nil})
	}
	for i, name := range []string{"mul", "mulh", "mulhsu", "mulhu", "div", "divu", "rem", "remu"} {
		all = append(all, row{name, 51, i, 1, true, true, true, 0, 0, 1, nil})
	}
	return append(all,
		row{"fence", 15, 0, -1, false, false, false, 0, 0, 1, nil},
		row{"fence.i", 15, 1, -1, false, false, false, 0, 0, 1, nil},
		row{"ecall", 115, -1, -1, false, false, false, 0, 0, 1, nil},
		row{"ebreak", 115, -1, -1, false, false, false, 0, 0, 1, nil})
}

// fits: is w a word of the row?
func (r row) fits(w uint32) bool {
	switch r.name {
	case "ecall":
		return w == 115
	case "ebreak":
		return w == 1048691
	}
	return int(w%128) == r.opcode &&
		(r.funct3 < 0 || int(w/4096%8) == r.funct3) &&
		(r.funct7 < 0 || int(w/(1<<25)) == r.funct7)
}

// imm puts Imm together bit by bit; the highest one counts below 0, but of a shift.
func (r row) imm(w uint32) int32 {
	var sum int64
	for i, place := range r.places {
		if place >= 0 && w>>place&1 == 1 {
			sum += 1 << i
		}
	}
	if r.least < 0 && sum > r.most {
		sum -= 1 << len(r.places)
	}
	return int32(sum)
}

// decoded is Decode by the table.
func decoded(all []row, w uint32) Ins {
	for k, r := range all {
		if !r.fits(w) {
			continue
		}
		i := Ins{Op: k + 1, Imm: r.imm(w)}
		if r.rd {
			i.Rd = int(w / 128 % 32)
		}
		if r.rs1 {
			i.Rs1 = int(w / (1 << 15) % 32)
		}
		if r.rs2 {
			i.Rs2 = int(w / (1 << 20) % 32)
		}
		return i
	}
	return Ins{}
}

// may: is i one that the table has?
func may(all []row, i Ins) bool {
	if i.Op < 1 || i.Op > len(all) {
		return false
	}
	r := all[i.Op-1]
	register := func(has bool, v int) bool { return v == 0 || has && v > 0 && v < 32 }
	imm := int64(i.Imm)
	return register(r.rd, i.Rd) && register(r.rs1, i.Rs1) && register(r.rs2, i.Rs2) &&
		imm >= r.least && imm <= r.most && imm%r.step == 0
}

// encoded is Encode by the table.
func encoded(all []row, i Ins) (uint32, api.Errno) {
	if !may(all, i) {
		return 0, api.EARG
	}
	r := all[i.Op-1]
	switch r.name {
	case "fence":
		return 267386895, api.OK
	case "fence.i":
		return 4111, api.OK
	case "ecall":
		return 115, api.OK
	case "ebreak":
		return 1048691, api.OK
	}
	w := uint32(r.opcode) + uint32(i.Rd)*128 + uint32(i.Rs1)*(1<<15) + uint32(i.Rs2)*(1<<20)
	w += uint32(max(r.funct3, 0))*4096 + uint32(max(r.funct7, 0))*(1<<25)
	for k, place := range r.places {
		if place >= 0 && uint32(i.Imm)>>k&1 == 1 {
			w += 1 << place
		}
	}
	return w, api.OK
}

func checkDecode(t *testing.T, all []row, w uint32) {
	t.Helper()
	if got, want := Decode(w), decoded(all, w); got != want {
		t.Fatalf("P5.1: Decode(%#x): %+v, want %+v", w, got, want)
	}
}

// checkEncode asks for the word, and, where there is one, for the way back.
func checkEncode(t *testing.T, all []row, i Ins) {
	t.Helper()
	w, e := Encode(i)
	if want, wantE := encoded(all, i); w != want || e != wantE {
		t.Fatalf("P5.1: Encode(%+v): %#x, %d, want %#x, %d", i, w, e, want, wantE)
	}
	if e == api.OK && Decode(w) != i {
		t.Fatalf("P5.1: Decode of Encode(%+v): %+v", i, Decode(w))
	}
}

// TestKnownWords has words that other assemblers write.
func TestKnownWords(t *testing.T) {
	for _, c := range []struct {
		text string
		w    uint32
		i    Ins
	}{
		{"addi x0, x0, 0", 0x00000013, Ins{Op: 19}},
		{"lui x5, 0x80000", 0x800002b7, Ins{Op: 1, Rd: 5, Imm: math.MinInt32}},
		{"lui x10, 1", 0x00001537, Ins{Op: 1, Rd: 10, Imm: 4096}},
		{"auipc x3, 0x7ffff", 0x7ffff197, Ins{Op: 2, Rd: 3, Imm: math.MaxInt32 - 4095}},
		{"jal x1, 2048", 0x001000ef, Ins{Op: 3, Rd: 1, Imm: 2048}},
		{"jal x0, -2", 0xfffff06f, Ins{Op: 3, Imm: -2}},
		{"jalr x0, 0(x1)", 0x00008067, Ins{Op: 4, Rs1: 1}},
		{"beq x0, x0, -4", 0xfe000ee3, Ins{Op: 5, Imm: -4}},
		{"bne x10, x11, 2048", 0x00b510e3, Ins{Op: 6, Rs1: 10, Rs2: 11, Imm: 2048}},
		{"lw x10, 8(x2)", 0x00812503, Ins{Op: 13, Rd: 10, Rs1: 2, Imm: 8}},
		{"lbu x15, -1(x31)", 0xffffc783, Ins{Op: 14, Rd: 15, Rs1: 31, Imm: -1}},
		{"sw x1, 12(x2)", 0x00112623, Ins{Op: 18, Rs1: 2, Rs2: 1, Imm: 12}},
		{"sb x31, -2048(x31)", 0x81ff8023, Ins{Op: 16, Rs1: 31, Rs2: 31, Imm: -2048}},
		{"addi x2, x2, -16", 0xff010113, Ins{Op: 19, Rd: 2, Rs1: 2, Imm: -16}},
		{"slli x5, x6, 3", 0x00331293, Ins{Op: 25, Rd: 5, Rs1: 6, Imm: 3}},
		{"srai x5, x6, 31", 0x41f35293, Ins{Op: 27, Rd: 5, Rs1: 6, Imm: 31}},
		{"sub x10, x11, x12", 0x40c58533, Ins{Op: 29, Rd: 10, Rs1: 11, Rs2: 12}},
		{"and x31, x31, x31", 0x01ffffb3, Ins{Op: 37, Rd: 31, Rs1: 31, Rs2: 31}},
		{"divu x5, x6, x7", 0x027352b3, Ins{Op: 43, Rd: 5, Rs1: 6, Rs2: 7}},
		{"fence", 0x0ff0000f, Ins{Op: 46}},
		{"fence.i", 0x0000100f, Ins{Op: 47}},
		{"ecall", 0x00000073, Ins{Op: 48}},
		{"ebreak", 0x00100073, Ins{Op: 49}},
	} {
		if got := Decode(c.w); got != c.i {
			t.Errorf("P5.1: %s: Decode(%#x): %+v", c.text, c.w, got)
		}
		if w, e := Encode(c.i); w != c.w || e != api.OK {
			t.Errorf("P5.1: %s: Encode: %#x, %d", c.text, w, e)
		}
	}
}

// TestDecodeFields goes through every opcode, funct3 and funct7, with other
// bits of all kinds beside them.
func TestDecodeFields(t *testing.T) {
	all := rows()
	seen := make([]int, len(all)+1)
	for opcode := range uint32(128) {
		for funct3 := range uint32(8) {
			for funct7 := range uint32(128) {
				for _, rest := range []uint32{0, 0x01ff8f80, 0x00a50a80, 1 << 7, 1 << 15, 1 << 20} {
					w := opcode | funct3<<12 | funct7<<25 | rest
					checkDecode(t, all, w)
					seen[Decode(w).Op]++
				}
			}
		}
	}
	for op, n := range seen {
		if n == 0 {
			t.Errorf("P5.1: no word has told Op %d", op)
		}
	}
}

func TestDecodeAnyWords(t *testing.T) {
	all := rows()
	for _, w := range []uint32{0, 1, 3, 0xffffffff, 0x7fffffff, 0x80000000, 0xfffffffe, 0x55555555, 0xaaaaaaaa} {
		checkDecode(t, all, w)
	}
	r := rand.New(rand.NewSource(5))
	opcodes := []uint32{55, 23, 111, 103, 99, 3, 35, 19, 51, 15, 115}
	for n := range 400000 {
		w := r.Uint32()
		if n%2 == 0 {
			w = w&^127 | opcodes[r.Intn(len(opcodes))]
		}
		checkDecode(t, all, w)
		if i := Decode(w); i.Op == 0 {
			continue
		} else if _, e := Encode(i); e != api.OK {
			t.Fatalf("P5.1: Encode refuses what Decode(%#x) tells: %+v", w, i)
		}
	}
}

func TestDecodeNone(t *testing.T) {
	for _, w := range []uint32{
		0, 0xffffffff, 0x12345678, 0x4501, // also words of two bytes
		0x00001067, 0x00007067, 0x00002063, 0x00003063, 0x00003003, 0x00006003, 0x00007003, 0x00003023, 0x00004023,
		0x02001013, 0x40001013, 0xfe001013, 0x02005013, 0x42005013, 0x80005013, 0xc0005013,
		0x40001033, 0x40007033, 0x42000033, 0x42005033, 0x04000033, 0x80000033,
		0x0000200f, 0x0000700f,
		0x000000f3, 0x00008073, 0x00200073, 0x001000f3, 0x00108073, 0x80000073, 0x00001073, 0xc0002573, 0x10500073, 0x30200073,
		0x00000007, 0x00000027, 0x00000053, 0x0000002f, 0x0000001b, 0x0000003b, 0x0000005b,
	} {
		if i := Decode(w); i != (Ins{}) {
			t.Errorf("P5.1: Decode(%#x): %+v", w, i)
		}
	}
}

// TestFences: nothing else in the word counts, and nothing of it is told.
func TestFences(t *testing.T) {
	for rest := range uint32(1 << 17) {
		for funct3, op := range []int{46, 47} {
			w := 15 | uint32(funct3)<<12 | rest<<15 | rest*2654435761>>27<<7
			if i := Decode(w); i != (Ins{Op: op}) {
				t.Fatalf("P5.1: Decode(%#x): %+v", w, i)
			}
		}
	}
}

// immEdges are the numbers about an Op's bounds, and single bits.
func immEdges(r row) []int32 {
	edges := []int32{0, 1, -1, 2, -2, 4, 3, -3, 31, 32, 33, 2046, 2047, 2048, -2047, -2048, -2049, 4093, 4094, 4095, 4096, 4098, -4095, -4096, -4097, -4098,
		1048573, 1048574, 1048575, 1048576, 1048578, -1048575, -1048576, -1048577, -1048578, math.MaxInt32, math.MaxInt32 - 4095, math.MaxInt32 - 4094, math.MinInt32, math.MinInt32 + 1, math.MinInt32 + 4096}
	for k := range 32 {
		edges = append(edges, int32(uint32(1)<<k), int32(^(uint32(1) << k)), int32(uint32(math.MaxUint32)<<k))
	}
	for _, bound := range []int64{r.least, r.most} {
		for d := int64(-2); d <= 2; d++ {
			if v := bound + d*r.step; v >= math.MinInt32 && v <= math.MaxInt32 {
				edges = append(edges, int32(v))
			}
		}
	}
	return edges
}

// TestEncodeEdges gives every Op each field at and past its ends, and the
// fields that it has not.
func TestEncodeEdges(t *testing.T) {
	all := rows()
	registers := []int{0, 1, 2, 15, 16, 30, 31, 32, 33, 63, 64, -1, -31, -32, 1 << 31, 1 << 32, 1<<32 + 1, -1 << 32, math.MaxInt, math.MinInt}
	for op := 1; op <= 49; op++ {
		for _, v := range registers {
			checkEncode(t, all, Ins{Op: op, Rd: v})
			checkEncode(t, all, Ins{Op: op, Rs1: v})
			checkEncode(t, all, Ins{Op: op, Rs2: v})
			checkEncode(t, all, Ins{Op: op, Rd: v, Rs1: 31, Rs2: 1, Imm: 4})
			checkEncode(t, all, Ins{Op: op, Rd: 31, Rs1: v, Imm: -2})
		}
		for _, v := range immEdges(all[op-1]) {
			checkEncode(t, all, Ins{Op: op, Imm: v})
			checkEncode(t, all, Ins{Op: op, Rd: 31, Rs1: 31, Imm: v})
			checkEncode(t, all, Ins{Op: op, Rs1: 1, Rs2: 30, Imm: v})
			checkEncode(t, all, Ins{Op: op, Rd: 21, Imm: v})
		}
	}
}

func TestEncodeNoOp(t *testing.T) {
	all := rows()
	for _, op := range []int{0, -1, -48, 50, 51, 64, 128, 256, 1 << 32, 1<<32 + 19, math.MaxInt, math.MinInt} {
		for _, i := range []Ins{{Op: op}, {Op: op, Rd: 1}, {Op: op, Rs1: 1, Rs2: 2, Imm: 4}} {
			if w, e := Encode(i); w != 0 || e != api.EARG {
				t.Errorf("P5.1: Encode(%+v): %#x, %d", i, w, e)
			}
			checkEncode(t, all, i)
		}
	}
}

// TestThereAndBack goes through all registers and all of the short numbers.
func TestThereAndBack(t *testing.T) {
	all := rows()
	for op := 1; op <= 49; op++ {
		r := all[op-1]
		for v := range 32 {
			for _, other := range []int{0, 1, 31} {
				checkEncode(t, all, Ins{Op: op, Rd: v, Rs1: other})
				checkEncode(t, all, Ins{Op: op, Rd: v, Rs1: other, Rs2: v ^ 31})
				checkEncode(t, all, Ins{Op: op, Rs1: v, Rs2: other})
			}
		}
		for v := int64(-4100); v <= 4100; v++ {
			checkEncode(t, all, Ins{Op: op, Imm: int32(v)})
		}
		for v := r.least; v <= r.most; v += r.step * 7 {
			checkEncode(t, all, Ins{Op: op, Imm: int32(v)})
		}
	}
}

// TestEncodeAny: what fits by chance, and what does not.
func TestEncodeAny(t *testing.T) {
	all := rows()
	r := rand.New(rand.NewSource(7))
	good := 0
	for range 300000 {
		pick := func() int { return (r.Intn(36) - 2) * r.Intn(2) }
		i := Ins{r.Intn(54) - 2, pick(), pick(), pick(), int32(r.Uint32()) >> r.Intn(32) << r.Intn(13)}
		if r.Intn(3) == 0 {
			i.Imm = 0
		}
		checkEncode(t, all, i)
		if may(all, i) {
			good++
		}
	}
	if good < 10000 {
		t.Errorf("P5.1: only %d instructions were good", good)
	}
}

func TestName(t *testing.T) {
	for k, r := range rows() {
		if got := Name(k + 1); got != r.name {
			t.Errorf("P5.1: Name(%d): %q, want %q", k+1, got, r.name)
		}
	}
	for _, op := range []int{0, -1, -19, 50, 51, 256, 1 << 32, 1<<32 + 1, math.MaxInt, math.MinInt} {
		if got := Name(op); got != "" {
			t.Errorf("P5.1: Name(%d): %q", op, got)
		}
	}
}

func TestEnds(t *testing.T) {
	ends := map[string]int{"jal": 1, "jalr": 1, "beq": 1, "bne": 1, "blt": 1, "bge": 1, "bltu": 1, "bgeu": 1, "fence.i": 1, "ecall": 1, "ebreak": 1}
	for k, r := range rows() {
		for _, i := range []Ins{{Op: k + 1}, {k + 1, 1, 2, 3, -4}, {k + 1, -1, 99, math.MinInt, math.MaxInt32}} {
			if got, want := Ends(i), ends[r.name] == 1; got != want {
				t.Errorf("P5.1: Ends(%+v): %v", i, got)
			}
		}
	}
	if !Ends(Ins{}) || !Ends(Decode(0xffffffff)) || !Ends(Ins{Rd: 1, Imm: 5}) {
		t.Errorf("P5.1: what is none does not end a block")
	}
	for _, op := range []int{-1, -3, -48, 50, 51, 1 << 32, 1<<32 + 3, math.MaxInt, math.MinInt} {
		if Ends(Ins{Op: op}) {
			t.Errorf("P5.1: Ends of Op %d", op)
		}
	}
}

func TestKind(t *testing.T) {
	// alu's order; an instruction with a number has its sister's kind.
	order := []string{"add", "sub", "sll", "slt", "sltu", "xor", "srl", "sra", "or", "and", "mul", "mulh", "mulhsu", "mulhu", "div", "divu", "rem", "remu"}
	kindOf := map[string]int{"addi": 0, "slti": 3, "sltiu": 4, "xori": 5, "ori": 8, "andi": 9, "slli": 2, "srli": 6, "srai": 7}
	for k, name := range order {
		kindOf[name] = k
	}
	for k, r := range rows() {
		want, has := kindOf[r.name]
		if got, ok := Kind(k + 1); got != want || ok != has {
			t.Errorf("P5.1: Kind(%d), %s: %d, %v, want %d, %v", k+1, r.name, got, ok, want, has)
		}
	}
	for _, op := range []int{0, -1, -19, 50, 63, 64, 1 << 32, 1<<32 + 19, math.MaxInt, math.MinInt} {
		if got, ok := Kind(op); got != 0 || ok {
			t.Errorf("P5.1: Kind(%d): %d, %v", op, got, ok)
		}
	}
}
