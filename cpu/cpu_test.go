package cpu

import (
	"fmt"
	"maps"
	"math"
	"math/big"
	"math/rand"
	"slices"
	"strings"
	"testing"

	"tincture/api"
	"tincture/asm"
	"tincture/mem"
	"tincture/rv"
)

// Where the pages of a test's memory are, by what may be done there.
const (
	first    = 0          // R, X: a jump below it goes beyond 2^32
	code     = 4096       // X alone
	beside   = 4352       // R, X: the page behind code
	changing = 8192       // R, W, X
	data     = 16384      // R, W
	onlyRead = 16640      // R
	onlyPut  = 16896      // W
	barred   = 17152      // nothing
	high     = 0x80000000 // R, W
	last     = 0xffffff00 // R, W, X
)

const nowhere = 20480 // no page is there

const (
	least = 1 << 31   // -2^31
	ones  = 1<<32 - 1 // -1
)

var pages = []struct {
	addr uint32
	perm int
}{
	{first, api.R | api.X}, {code, api.X}, {beside, api.R | api.X}, {changing, api.R | api.W | api.X},
	{data, api.R | api.W}, {onlyRead, api.R}, {onlyPut, api.W}, {barred, 0},
	{high, api.R | api.W}, {last, api.R | api.W | api.X},
}

// newMem has all the pages, whose bytes are unlike their neighbours.
func newMem(t *testing.T) *mem.Mem {
	t.Helper()
	m, e := mem.New(len(pages))
	if e != api.OK {
		t.Fatalf("mem.New: %d", e)
	}
	for n, p := range pages {
		if e := m.Map(p.addr, api.Page, p.perm); e != api.OK {
			t.Fatalf("mem.Map(%d): %d", p.addr, e)
		}
		b := make([]byte, api.Page)
		for i := range b {
			b[i] = byte(i*101 + n*37 + 129)
		}
		poke(t, m, p.addr, b)
	}
	return m
}

func poke(t *testing.T, m *mem.Mem, addr uint32, b []byte) {
	t.Helper()
	if e := m.Poke(addr, b); e != api.OK {
		t.Fatalf("mem.Poke(%d): %d", addr, e)
	}
}

func pokeWord(t *testing.T, m *mem.Mem, addr, w uint32) {
	t.Helper()
	poke(t, m, addr, []byte{byte(w), byte(w >> 8), byte(w >> 16), byte(w >> 24)})
}

// pokeText lays a text's instructions into a memory.
func pokeText(t *testing.T, m *mem.Mem, addr uint32, text string) {
	t.Helper()
	b, line, e := asm.All(text)
	if e != api.OK {
		t.Fatalf("asm.All(%q): line %d, %d", text, line, e)
	}
	poke(t, m, addr, b)
}

// spot is a page as a later call could tell it.
type spot struct {
	perm  int
	gen   uint32
	bytes [api.Page]byte
}

type world map[uint32]spot

// worldOf tells all of a memory; what may not be read is read in a copy.
func worldOf(t *testing.T, m *mem.Mem) world {
	t.Helper()
	w := world{}
	other := m.Copy()
	for _, addr := range m.Pages() {
		s := spot{gen: m.Gen(addr)}
		s.perm, _ = m.Perm(addr)
		other.Protect(addr, api.Page, api.R)
		b, e := other.Read(addr, api.Page)
		if e != api.OK {
			t.Fatalf("mem.Read(%d): %d", addr, e)
		}
		copy(s.bytes[:], b)
		w[addr] = s
	}
	return w
}

// fault tells why a number may not be read or written.
func (w world) fault(addr, size uint32, need int) api.Fault {
	p, ok := w[addr-addr%api.Page]
	switch {
	case addr%size != 0:
		return api.Crooked
	case !ok:
		return api.Unmapped
	case p.perm&need == 0:
		return api.Barred
	}
	return api.Fine
}

func (w world) number(addr, size uint32) uint32 {
	var v uint32
	for n := size; n > 0; n-- {
		at := addr + n - 1
		v = v<<8 + uint32(w[at-at%api.Page].bytes[at%api.Page])
	}
	return v
}

func (w world) put(addr, size, v uint32) {
	p := w[addr-addr%api.Page]
	for n := range size {
		p.bytes[addr%api.Page+n] = byte(v)
		v /= 256
	}
	p.gen++
	w[addr-addr%api.Page] = p
}

// model does an instruction as the chapter tells it, by the names of the
// instructions and in numbers that can't wrap round. It changes the world that
// it is handed.
func model(w world, s api.State) (api.State, api.Event) {
	if f := w.fault(s.PC, 4, api.X); f != api.Fine {
		return s, api.Event{Kind: api.Fetch, Addr: s.PC, Why: f}
	}
	i := rv.Decode(w.number(s.PC, 4))
	name := rv.Name(i.Op)
	after := s
	after.X[0] = 0
	a, b := after.X[i.Rs1], after.X[i.Rs2]
	near := wrapped(int64(a) + int64(i.Imm))
	next := wrapped(int64(s.PC) + 4)
	there := wrapped(int64(s.PC) + int64(i.Imm))
	switch name {
	case "":
		return s, api.Event{Kind: api.Illegal, Addr: s.PC}
	case "ecall":
		return s, api.Event{Kind: api.Ecall, Addr: s.PC}
	case "ebreak":
		return s, api.Event{Kind: api.Ebreak, Addr: s.PC}
	case "fence", "fence.i":
	case "lui":
		after.X[i.Rd] = wrapped(int64(i.Imm))
	case "auipc":
		after.X[i.Rd] = there
	case "jal":
		after.X[i.Rd] = next
		next = there
	case "jalr":
		after.X[i.Rd] = next
		next = near - near%2
	case "beq", "bne", "blt", "bge", "bltu", "bgeu":
		if holds(name, a, b) {
			next = there
		}
	case "lb", "lbu", "lh", "lhu", "lw":
		size := sizeOf(name)
		if f := w.fault(near, size, api.R); f != api.Fine {
			return s, api.Event{Kind: api.Load, Addr: near, Why: f}
		}
		after.X[i.Rd] = spread(name, w.number(near, size))
	case "sb", "sh", "sw":
		size := sizeOf(name)
		if f := w.fault(near, size, api.W); f != api.Fine {
			return s, api.Event{Kind: api.Store, Addr: near, Why: f}
		}
		w.put(near, size, b)
	case "addi", "slti", "sltiu", "xori", "ori", "andi", "slli", "srli", "srai":
		after.X[i.Rd] = reckoned(strings.Replace(name, "i", "", 1), a, wrapped(int64(i.Imm)))
	default:
		after.X[i.Rd] = reckoned(name, a, b)
	}
	if next%4 != 0 {
		return s, api.Event{Kind: api.Target, Addr: next}
	}
	after.PC = next
	after.Retired++
	after.X[0] = 0
	return after, api.Event{}
}

// wrapped is a number modulo 2^32.
func wrapped(v int64) uint32 { return uint32((v%(1<<32) + 1<<32) % (1 << 32)) }

// signed is a number's value with a sign.
func signed(v uint32) int64 {
	if v >= least {
		return int64(v) - 1<<32
	}
	return int64(v)
}

func sizeOf(name string) uint32 { return map[byte]uint32{'b': 1, 'h': 2, 'w': 4}[name[1]] }

func spread(name string, v uint32) uint32 {
	switch {
	case name == "lb" && v >= 128:
		return wrapped(int64(v) - 256)
	case name == "lh" && v >= 32768:
		return wrapped(int64(v) - 65536)
	}
	return v
}

func holds(name string, a, b uint32) bool {
	switch name {
	case "beq":
		return a == b
	case "bne":
		return a != b
	case "blt":
		return signed(a) < signed(b)
	case "bge":
		return signed(a) >= signed(b)
	case "bltu":
		return a < b
	}
	return a >= b // bgeu
}

func reckoned(name string, a, b uint32) uint32 {
	x, y := big.NewInt(signed(a)), big.NewInt(signed(b))
	if strings.HasSuffix(name, "u") {
		y = big.NewInt(int64(b))
		if name != "mulhsu" {
			x = big.NewInt(int64(a))
		}
	}
	v := new(big.Int)
	switch name {
	case "add":
		v.Add(x, y)
	case "sub":
		v.Sub(x, y)
	case "sll":
		v.Lsh(x, uint(b%32))
	case "srl":
		v.Rsh(big.NewInt(int64(a)), uint(b%32))
	case "sra":
		v.Rsh(x, uint(b%32))
	case "slt", "sltu":
		if x.Cmp(y) < 0 {
			v.SetInt64(1)
		}
	case "xor":
		v.Xor(x, y)
	case "or":
		v.Or(x, y)
	case "and":
		v.And(x, y)
	case "mul":
		v.Mul(x, y)
	case "mulh", "mulhsu", "mulhu":
		v.Rsh(v.Mul(x, y), 32)
	case "div", "divu":
		v.SetInt64(-1)
		if b != 0 {
			v.Quo(x, y)
		}
	case "rem", "remu":
		v.Set(x)
		if b != 0 {
			v.Rem(x, y)
		}
	}
	return uint32(v.And(v, big.NewInt(ones)).Uint64())
}

// steps holds a step against the model, in all that it could have changed, and
// tells what it came to.
func steps(t *testing.T, m *mem.Mem, s api.State) (api.State, api.Event) {
	t.Helper()
	w := worldOf(t, m)
	i := rv.Decode(w.number(s.PC-s.PC%4, 4))
	want, wantEvent := model(w, s)
	got, ev := Step(m, s)
	if got != want || ev != wantEvent {
		t.Errorf("P12.2: %q at %s: %s, %v, want %s, %v", asm.Text(i), show(s), show(got), ev, show(want), wantEvent)
	}
	if !maps.Equal(worldOf(t, m), w) {
		t.Errorf("P12.2: %q at %s: %v: memory is not what it should be", asm.Text(i), show(s), ev)
	}
	return got, ev
}

func show(s api.State) string {
	text := fmt.Sprintf("PC %d, Retired %d", s.PC, s.Retired)
	for r, v := range s.X {
		if v != 0 {
			text += fmt.Sprintf(", x%d %#x", r, v)
		}
	}
	return text
}

// filled is a state at pc all of whose registers bear something, x0 too.
func filled(pc uint32) api.State {
	s := api.State{PC: pc, Retired: 7}
	for r := range s.X {
		s.X[r] = uint32(1000003*r + 11)
	}
	return s
}

// with is filled but for some registers.
func with(pc uint32, x map[int]uint32) api.State {
	s := filled(pc)
	for r, v := range x {
		s.X[r] = v
	}
	return s
}

// fetches holds that there is an instruction.
func fetches(t *testing.T, m *mem.Mem, pc uint32, want rv.Ins) {
	t.Helper()
	if i, ev := Fetch(m, pc); i != want || ev != (api.Event{}) {
		t.Errorf("P12.1: Fetch(%d): %+v, %v, want %+v", pc, i, ev, want)
	}
}

// fetchesNot holds that there is none, and that a Step there comes to the same.
func fetchesNot(t *testing.T, m *mem.Mem, pc uint32, want api.Event) {
	t.Helper()
	before := worldOf(t, m)
	if i, ev := Fetch(m, pc); i != (rv.Ins{}) || ev != want {
		t.Errorf("P12.1: Fetch(%d): %+v, %v, want %v", pc, i, ev, want)
	}
	if s, ev := Step(m, filled(pc)); s != filled(pc) || ev != want {
		t.Errorf("P12.2: Step at %d, which can't be fetched: %s, %v, want %v", pc, show(s), ev, want)
	}
	if !maps.Equal(worldOf(t, m), before) {
		t.Errorf("P12.1: Fetch(%d): memory has changed", pc)
	}
}

func TestExample(t *testing.T) {
	m, _ := mem.New(1)
	m.Map(0, api.Page, api.X)
	pokeText(t, m, 0, "addi x1, x0, 5")
	s, ev := Step(m, api.State{})
	want := api.State{PC: 4, Retired: 1}
	want.X[1] = 5
	if s != want || ev != (api.Event{}) {
		t.Errorf("P12.2: the chapter's example: %s, %v", show(s), ev)
	}
}

func TestFetch(t *testing.T) {
	addi := rv.Ins{Op: 19, Rd: 1, Rs1: 2, Imm: -3}
	for _, p := range pages {
		m := newMem(t)
		for _, pc := range []uint32{p.addr, p.addr + 4, p.addr + 252} {
			pokeText(t, m, pc, "addi x1, x2, -3")
			if p.perm&api.X != 0 {
				fetches(t, m, pc, addi)
			} else {
				fetchesNot(t, m, pc, api.Event{Kind: api.Fetch, Addr: pc, Why: api.Barred})
			}
		}
	}
}

func TestFetchOfFaults(t *testing.T) {
	for _, c := range []struct {
		pc  uint32
		why api.Fault
	}{
		{nowhere, api.Unmapped}, {nowhere + 252, api.Unmapped}, {first + 256, api.Unmapped}, {last - 4, api.Unmapped},
		{changing + 256, api.Unmapped}, {changing - 4, api.Unmapped}, {data, api.Barred}, {barred, api.Barred},
		// Crooked is told ahead of the others.
		{code + 1, api.Crooked}, {code + 2, api.Crooked}, {code + 3, api.Crooked}, {code + 254, api.Crooked},
		{nowhere + 2, api.Crooked}, {data + 2, api.Crooked}, {ones, api.Crooked}, {ones - 1, api.Crooked}, {1, api.Crooked},
	} {
		fetchesNot(t, newMem(t), c.pc, api.Event{Kind: api.Fetch, Addr: c.pc, Why: c.why})
	}
}

func TestFetchOfWords(t *testing.T) {
	r := rand.New(rand.NewSource(12))
	m := newMem(t)
	legal := 0
	for n := range 20000 {
		w := r.Uint32()
		if n%2 == 0 { // an opcode that there is, so that many are instructions
			w = w&^127 | []uint32{55, 23, 111, 103, 99, 3, 35, 19, 51, 15, 115}[n/2%11]
			w &^= uint32(r.Intn(2)) * 0xfe000000
		}
		if n < 6 {
			w = []uint32{0, ones, 115, 1048691, 115 + 1<<7, 2 << 20}[n]
		}
		pc := []uint32{code, changing + 252, last + 252}[n%3]
		pokeWord(t, m, pc, w)
		i, ev := Fetch(m, pc)
		want := api.Event{}
		if rv.Decode(w).Op == 0 {
			want = api.Event{Kind: api.Illegal, Addr: pc}
		} else {
			legal++
		}
		if i != rv.Decode(w) || ev != want {
			t.Errorf("P12.1: Fetch of the word %#x: %+v, %v, want %v", w, i, ev, want)
		}
	}
	if legal < 5000 || legal > 15000 {
		t.Errorf("%d words are instructions", legal)
	}
}

func TestIllegal(t *testing.T) {
	for _, w := range []uint32{0, ones, 116, 115 + 1<<7, 0x00100073 + 1<<15, 0x40001013, 0x4000003b, 0x0000200f, 0x00003003} {
		m := newMem(t)
		pokeWord(t, m, code+8, w)
		fetchesNot(t, m, code+8, api.Event{Kind: api.Illegal, Addr: code + 8})
	}
}

// TestSteps has the registers that an instruction reads in the row's, and what
// becomes of them.
func TestSteps(t *testing.T) {
	for _, c := range []struct {
		text string
		pc   uint32
		x    map[int]uint32 // ahead of it, beside filled's
		then map[int]uint32 // behind it, where it is another one
		next uint32
	}{
		{"lui x1, 1048575", code, nil, map[int]uint32{1: 0xfffff000}, code + 4},
		{"lui x31, 524288", code, nil, map[int]uint32{31: least}, code + 4},
		{"lui x0, 5", code, nil, nil, code + 4},
		{"auipc x1, 2", code + 8, nil, map[int]uint32{1: code + 8 + 8192}, code + 12},
		{"auipc x1, 1048575", first + 4, nil, map[int]uint32{1: 0xfffff004}, first + 8},
		{"auipc x1, 1", last + 4, nil, map[int]uint32{1: 0xf04}, last + 8},
		{"auipc x0, 1", code, nil, nil, code + 4},
		{"jal x1, 16", code, nil, map[int]uint32{1: code + 4}, code + 16},
		{"jal x1, 0", code, nil, map[int]uint32{1: code + 4}, code},
		{"jal x0, -8", code, nil, nil, code - 8},
		{"jal x1, -4", first, nil, map[int]uint32{1: 4}, ones - 3},
		{"jal x1, 8", last + 252, nil, map[int]uint32{1: 0}, 4},
		{"jal x1, 1048572", code, nil, map[int]uint32{1: code + 4}, code + 1048572},
		{"jal x1, -1048576", changing, nil, map[int]uint32{1: changing + 4}, 0xfff02000},
		{"jalr x1, -4(x2)", code, map[int]uint32{2: 1000}, map[int]uint32{1: code + 4}, 996},
		{"jalr x1, 3(x2)", code, map[int]uint32{2: 1002}, map[int]uint32{1: code + 4}, 1004},
		{"jalr x2, 0(x2)", code, map[int]uint32{2: 1000}, map[int]uint32{2: code + 4}, 1000},
		{"jalr x2, 1(x2)", code, map[int]uint32{2: 1000}, map[int]uint32{2: code + 4}, 1000},
		{"jalr x0, 0(x2)", code, map[int]uint32{2: 1000}, nil, 1000},
		{"jalr x0, 8(x0)", code, nil, nil, 8},
		{"jalr x1, 5(x2)", code, map[int]uint32{2: ones}, map[int]uint32{1: code + 4}, 4},
		{"jalr x1, -1(x2)", last + 252, map[int]uint32{2: 0x80000001}, map[int]uint32{1: 0}, least},
		{"beq x1, x2, 16", code, map[int]uint32{1: 5, 2: 5}, nil, code + 16},
		{"beq x1, x2, 16", code, map[int]uint32{1: 5, 2: 6}, nil, code + 4},
		{"beq x0, x2, 16", code, map[int]uint32{2: 0}, nil, code + 16},
		{"bne x1, x0, 16", code, map[int]uint32{1: 0}, nil, code + 4},
		{"bne x1, x2, -4096", changing, map[int]uint32{1: 5, 2: 6}, nil, changing - 4096},
		{"bne x1, x2, 4092", code, map[int]uint32{1: 5, 2: 5}, nil, code + 4},
		{"blt x1, x2, 16", code, map[int]uint32{1: least, 2: 0}, nil, code + 16},
		{"blt x1, x2, 16", code, map[int]uint32{1: 0, 2: 0}, nil, code + 4},
		{"bge x1, x2, 16", code, map[int]uint32{1: 0, 2: 0}, nil, code + 16},
		{"bge x1, x2, 16", code, map[int]uint32{1: least, 2: 0}, nil, code + 4},
		{"bltu x1, x2, 16", code, map[int]uint32{1: 0, 2: least}, nil, code + 16},
		{"bltu x1, x2, 16", code, map[int]uint32{1: least, 2: 0}, nil, code + 4},
		{"bgeu x1, x2, 16", code, map[int]uint32{1: least, 2: 0}, nil, code + 16},
		{"bgeu x1, x2, 16", code, map[int]uint32{1: 0, 2: least}, nil, code + 4},
		{"bgeu x1, x1, -8", first + 4, nil, nil, ones - 3},
		{"bgeu x1, x1, 4", last + 252, nil, nil, 0},
		{"bltu x1, x1, -8", last + 252, nil, nil, 0},
		{"addi x1, x1, -1", code, map[int]uint32{1: 0}, map[int]uint32{1: ones}, code + 4},
		{"addi x1, x0, -1", code, nil, map[int]uint32{1: ones}, code + 4},
		{"addi x0, x2, 7", code, nil, nil, code + 4},
		{"slti x1, x2, -1", code, map[int]uint32{2: least}, map[int]uint32{1: 1}, code + 4},
		{"sltiu x1, x2, -1", code, map[int]uint32{2: ones}, map[int]uint32{1: 0}, code + 4},
		{"xori x1, x2, -1", code, map[int]uint32{2: 12}, map[int]uint32{1: ones - 12}, code + 4},
		{"ori x1, x2, -16", code, map[int]uint32{2: 3}, map[int]uint32{1: 0xfffffff3}, code + 4},
		{"andi x1, x2, -16", code, map[int]uint32{2: 0x1234567f}, map[int]uint32{1: 0x12345670}, code + 4},
		{"slli x1, x2, 31", code, map[int]uint32{2: 3}, map[int]uint32{1: least}, code + 4},
		{"srli x1, x2, 31", code, map[int]uint32{2: least}, map[int]uint32{1: 1}, code + 4},
		{"srai x1, x2, 31", code, map[int]uint32{2: least}, map[int]uint32{1: ones}, code + 4},
		{"add x3, x1, x2", code, map[int]uint32{1: ones, 2: 2}, map[int]uint32{3: 1}, code + 4},
		{"sub x3, x1, x2", code, map[int]uint32{1: 0, 2: 2}, map[int]uint32{3: ones - 1}, code + 4},
		{"sub x3, x0, x2", code, map[int]uint32{2: 2}, map[int]uint32{3: ones - 1}, code + 4},
		{"sll x3, x1, x2", code, map[int]uint32{1: 1, 2: 33}, map[int]uint32{3: 2}, code + 4},
		{"slt x3, x1, x2", code, map[int]uint32{1: ones, 2: 0}, map[int]uint32{3: 1}, code + 4},
		{"sltu x3, x0, x2", code, map[int]uint32{2: 1}, map[int]uint32{3: 1}, code + 4},
		{"xor x3, x3, x3", code, nil, map[int]uint32{3: 0}, code + 4},
		{"srl x3, x1, x2", code, map[int]uint32{1: ones, 2: 28}, map[int]uint32{3: 15}, code + 4},
		{"sra x3, x1, x2", code, map[int]uint32{1: least, 2: 4}, map[int]uint32{3: 0xf8000000}, code + 4},
		{"or x2, x1, x2", code, map[int]uint32{1: 12, 2: 10}, map[int]uint32{2: 14}, code + 4},
		{"and x1, x1, x2", code, map[int]uint32{1: 12, 2: 10}, map[int]uint32{1: 8}, code + 4},
		{"mul x3, x1, x2", code, map[int]uint32{1: ones, 2: 7}, map[int]uint32{3: ones - 6}, code + 4},
		{"mulh x3, x1, x2", code, map[int]uint32{1: ones, 2: ones}, map[int]uint32{3: 0}, code + 4},
		{"mulhsu x3, x1, x2", code, map[int]uint32{1: ones, 2: ones}, map[int]uint32{3: ones}, code + 4},
		{"mulhu x3, x1, x2", code, map[int]uint32{1: ones, 2: ones}, map[int]uint32{3: ones - 1}, code + 4},
		{"div x3, x1, x0", code, map[int]uint32{1: 7}, map[int]uint32{3: ones}, code + 4},
		{"divu x3, x1, x2", code, map[int]uint32{1: ones, 2: 2}, map[int]uint32{3: 1<<31 - 1}, code + 4},
		{"rem x3, x1, x2", code, map[int]uint32{1: ones - 6, 2: 2}, map[int]uint32{3: ones}, code + 4},
		{"remu x3, x1, x0", code, map[int]uint32{1: 7}, map[int]uint32{3: 7}, code + 4},
		{"add x0, x1, x2", code, nil, nil, code + 4},
		{"addi x1, x1, 0", last + 252, nil, nil, 0},
		{"fence", code, nil, nil, code + 4},
		{"fence.i", code, nil, nil, code + 4},
		{"word 4294938511", code, nil, nil, code + 4}, // a fence, whatever else stands there
		{"word 4294942607", code, nil, nil, code + 4}, // a fence.i
	} {
		m := newMem(t)
		pokeText(t, m, c.pc, c.text)
		want := with(c.next, c.x)
		for r, v := range c.then {
			want.X[r] = v
		}
		want.X[0] = 0
		want.Retired = 8
		got, ev := steps(t, m, with(c.pc, c.x))
		if got != want || ev != (api.Event{}) {
			t.Errorf("P12.2: %s at %d, %v: %s, %v, want %s", c.text, c.pc, c.x, show(got), ev, show(want))
		}
	}
}

func TestTargets(t *testing.T) {
	for _, c := range []struct {
		text string
		pc   uint32
		x    map[int]uint32
		to   uint32
	}{
		{"jal x1, 2", code, nil, code + 2},
		{"jal x0, -2", code, nil, code - 2},
		{"jal x1, -2", first, nil, ones - 1},
		{"jal x1, 6", last + 252, nil, 2},
		{"jal x1, 1048574", code, nil, code + 1048574},
		{"jalr x1, 0(x2)", code, map[int]uint32{2: 1002}, 1002},
		{"jalr x2, 1(x2)", code, map[int]uint32{2: 1002}, 1002},
		{"jalr x2, 2(x2)", code, map[int]uint32{2: 1001}, 1002},
		{"jalr x0, -1(x0)", code, nil, ones - 1},
		{"beq x1, x1, 2", code, nil, code + 2},
		{"bne x1, x2, -4094", code, nil, 2},
		{"blt x1, x2, 4094", code, map[int]uint32{1: ones, 2: 0}, code + 4094},
		{"bge x1, x2, 6", code, map[int]uint32{1: 0, 2: ones}, code + 6},
		{"bltu x0, x2, 6", last + 252, nil, 2},
		{"bgeu x1, x0, -2", first, nil, ones - 1},
	} {
		m := newMem(t)
		pokeText(t, m, c.pc, c.text)
		s := with(c.pc, c.x)
		got, ev := steps(t, m, s)
		if got != s || ev != (api.Event{Kind: api.Target, Addr: c.to}) {
			t.Errorf("P12.2: %s at %d, %v: %s, %v, want Target, %d", c.text, c.pc, c.x, show(got), ev, c.to)
		}
	}
}

// TestNotTaken: of a branch that is not taken nobody asks where it goes.
func TestNotTaken(t *testing.T) {
	for _, text := range []string{"beq x1, x2, 6", "bne x1, x1, 6", "blt x1, x1, 6", "bge x0, x1, 6", "bltu x1, x0, 6", "bgeu x0, x1, 6"} {
		m := newMem(t)
		pokeText(t, m, code, text)
		if s, ev := steps(t, m, filled(code)); s.PC != code+4 || s.Retired != 8 || ev != (api.Event{}) {
			t.Errorf("P12.2: %s, not taken: %s, %v", text, show(s), ev)
		}
	}
}

func TestTraps(t *testing.T) {
	for _, c := range []struct {
		text string
		kind int
	}{{"ecall", api.Ecall}, {"ebreak", api.Ebreak}} {
		for _, pc := range []uint32{first, code + 8, changing + 252, last + 252} {
			m := newMem(t)
			pokeText(t, m, pc, c.text)
			fetches(t, m, pc, rv.Ins{Op: 43 + c.kind})
			if s, ev := steps(t, m, filled(pc)); s != filled(pc) || ev != (api.Event{Kind: c.kind, Addr: pc}) {
				t.Errorf("P12.2: %s at %d: %s, %v", c.text, pc, show(s), ev)
			}
		}
	}
}

func TestLoads(t *testing.T) {
	for _, c := range []struct {
		text string
		x2   uint32
		want uint32
	}{
		{"lb x1, 0(x2)", data, 0x21}, {"lb x1, 3(x2)", data, 0xffffff87}, {"lbu x1, 3(x2)", data, 0x87}, {"lbu x1, -1(x2)", data + 2, 0x43},
		{"lh x1, 0(x2)", data, 0x4321}, {"lh x1, 2(x2)", data, 0xffff8765}, {"lhu x1, 2(x2)", data, 0x8765}, {"lhu x1, -2(x2)", data + 2, 0x4321},
		{"lw x1, 0(x2)", data, 0x87654321}, {"lw x1, -2048(x2)", data + 2048, 0x87654321}, {"lw x1, 2047(x2)", data - 2047, 0x87654321},
		{"lw x1, 0(x2)", onlyRead, 0x87654321}, {"lw x1, 0(x2)", high, 0x87654321}, {"lw x1, -4(x2)", beside + 4, 0x87654321},
		{"lw x1, -4(x0)", 0, 0x87654321}, {"lw x1, 4(x2)", ones - 3, 0x87654321}, {"lb x1, -1(x0)", 0, 0xffffff87}, {"lw x1, 0(x0)", 9, 0x87654321},
	} {
		m := newMem(t)
		for _, addr := range []uint32{first, beside, data, onlyRead, high, last + 252} {
			pokeWord(t, m, addr, 0x87654321)
		}
		pokeText(t, m, code, c.text)
		want := with(code+4, map[int]uint32{0: 0, 1: c.want, 2: c.x2})
		want.Retired = 8
		got, ev := steps(t, m, with(code, map[int]uint32{2: c.x2}))
		if got != want || ev != (api.Event{}) {
			t.Errorf("P12.2: %s, x2 %#x: %s, %v, want x1 %#x", c.text, c.x2, show(got), ev, c.want)
		}
	}
}

// TestLoadOver loads over the register that tells where, and into x0.
func TestLoadOver(t *testing.T) {
	m := newMem(t)
	pokeWord(t, m, data+8, 0x87654321)
	pokeText(t, m, code, "lh x2, 10(x2)\nlw x0, -8(x3)\nlbu x0, 0(x4)")
	s, _ := steps(t, m, with(code, map[int]uint32{2: data, 3: data + 16, 4: nowhere}))
	if s.X[2] != 0xffff8765 {
		t.Errorf("P12.2: lh x2, 10(x2): %s", show(s))
	}
	s, ev := steps(t, m, s)
	if s.X[0] != 0 || s.PC != code+8 || ev != (api.Event{}) {
		t.Errorf("P12.2: lw into x0: %s, %v", show(s), ev)
	}
	// Into x0 nothing comes, but there it must be.
	if _, ev := steps(t, m, s); ev != (api.Event{Kind: api.Load, Addr: nowhere, Why: api.Unmapped}) {
		t.Errorf("P12.2: lbu of nowhere into x0: %v", ev)
	}
}

// refuses holds that a load or store at an address is an event.
func refuses(t *testing.T, name string, addr uint32, kind int, why api.Fault) {
	t.Helper()
	m := newMem(t)
	pokeText(t, m, code, name+" x5, -4(x2)")
	s := with(code, map[int]uint32{2: addr + 4})
	if got, ev := steps(t, m, s); got != s || ev != (api.Event{Kind: kind, Addr: addr, Why: why}) {
		t.Errorf("P12.2: %s at %d: %s, %v, want %d, %d", name, addr, show(got), ev, kind, why)
	}
}

func TestLoadFaults(t *testing.T) {
	for _, name := range []string{"lb", "lbu", "lh", "lhu", "lw"} {
		for _, addr := range []uint32{nowhere, first + 256, last - 4, high + 256, high - 4} {
			refuses(t, name, addr, api.Load, api.Unmapped)
		}
		for _, addr := range []uint32{code, onlyPut, barred} {
			refuses(t, name, addr+252, api.Load, api.Barred)
		}
	}
	for _, name := range []string{"lh", "lhu", "lw"} {
		for _, addr := range []uint32{data + 1, data + 3, data + 255, nowhere + 1, onlyPut + 1, ones} {
			refuses(t, name, addr, api.Load, api.Crooked)
		}
	}
	refuses(t, "lw", data+2, api.Load, api.Crooked)
	refuses(t, "lw", data+254, api.Load, api.Crooked)
}

func TestStoreFaults(t *testing.T) {
	for _, name := range []string{"sb", "sh", "sw"} {
		for _, addr := range []uint32{nowhere, first + 256, last - 4, high + 256, high - 4} {
			refuses(t, name, addr, api.Store, api.Unmapped)
		}
		for _, addr := range []uint32{first, code, beside, onlyRead, barred} {
			refuses(t, name, addr+252, api.Store, api.Barred)
		}
	}
	for _, name := range []string{"sh", "sw"} {
		for _, addr := range []uint32{data + 1, data + 3, data + 255, nowhere + 1, onlyRead + 1, ones} {
			refuses(t, name, addr, api.Store, api.Crooked)
		}
	}
	refuses(t, "sw", data+2, api.Store, api.Crooked)
	refuses(t, "sw", data+254, api.Store, api.Crooked)
}

func TestStores(t *testing.T) {
	for _, c := range []struct {
		text string
		addr uint32 // where the four bytes are that are looked at
		want uint32
	}{
		{"sb x1, 0(x2)", data, 0xffffff44}, {"sb x1, 3(x2)", data, 0x44ffffff}, {"sh x1, 0(x2)", data, 0xffff3344}, {"sh x1, 2(x2)", data, 0x3344ffff},
		{"sw x1, 0(x2)", data, 0x11223344}, {"sw x1, 252(x2)", data + 252, 0x11223344}, {"sw x1, 512(x2)", onlyPut, 0x11223344},
		{"sw x0, 0(x2)", data, 0}, {"sb x0, 1(x2)", data, 0xffff00ff}, {"sw x2, 4(x2)", data + 4, data}, {"sw x1, -4(x0)", ones - 3, 0x11223344}, {"sb x1, -1(x0)", ones - 3, 0x44ffffff},
	} {
		m := newMem(t)
		pokeWord(t, m, c.addr, ones)
		pokeText(t, m, code, c.text)
		before := m.Gen(c.addr)
		s, ev := steps(t, m, with(code, map[int]uint32{1: 0x11223344, 2: data}))
		want := with(code+4, map[int]uint32{0: 0, 1: 0x11223344, 2: data})
		want.Retired = 8
		if s != want || ev != (api.Event{}) {
			t.Errorf("P12.2: %s: %s, %v", c.text, show(s), ev)
		}
		if got := worldOf(t, m).number(c.addr, 4); got != c.want || m.Gen(c.addr) != before+1 {
			t.Errorf("P12.2: %s: %#x, Gen %d, want %#x, %d", c.text, got, m.Gen(c.addr), c.want, before+1)
		}
	}
}

// TestStoreOverCode: what is stored is what the next step finds; the one that
// stores over itself has been done.
func TestStoreOverCode(t *testing.T) {
	m := newMem(t)
	w, _ := rv.Encode(rv.Ins{Op: 19, Rd: 3, Imm: 99})
	pokeText(t, m, changing, "sw x1, 0(x2)\nsw x1, 8(x2)\necall")
	s := with(changing, map[int]uint32{1: w, 2: changing})
	for range 3 {
		s, _ = steps(t, m, s)
	}
	if s.X[3] != 99 || s.PC != changing+12 || s.Retired != 10 {
		t.Errorf("P12.2: a program that stores over its code: %s", show(s))
	}
	s.PC = changing
	fetches(t, m, changing, rv.Ins{Op: 19, Rd: 3, Imm: 99})
}

// TestNought: x0 is 0 wherever it is read, and where it was something it is 0
// behind Next alone.
func TestNought(t *testing.T) {
	for op := 1; op <= 49; op++ {
		for _, regs := range [][3]int{{0, 0, 0}, {1, 0, 2}, {1, 2, 0}, {0, 1, 2}} {
			i, ok := fit(op, regs[0], regs[1], regs[2], 4)
			if !ok {
				t.Fatalf("no instruction of Op %d", op)
			}
			for _, x0 := range []uint32{0, 1, data, ones} {
				m := newMem(t)
				w, _ := rv.Encode(i)
				pokeWord(t, m, changing, w)
				s, ev := steps(t, m, with(changing, map[int]uint32{0: x0, 1: data, 2: data + 8}))
				want := x0
				if ev.Kind == api.Next {
					want = 0
				}
				if s.X[0] != want {
					t.Errorf("P12.2: %s, x0 %d: x0 %d behind event %d", asm.Text(i), x0, s.X[0], ev.Kind)
				}
			}
		}
	}
}

// fit makes an instruction of an Op of what of the registers and Imm it has.
func fit(op, rd, rs1, rs2 int, imm int32) (rv.Ins, bool) {
	for n := range 16 {
		i := rv.Ins{Op: op}
		if n&1 == 0 {
			i.Rd = rd
		}
		if n&2 == 0 {
			i.Rs1 = rs1
		}
		if n&4 == 0 {
			i.Rs2 = rs2
		}
		if n&8 == 0 {
			i.Imm = imm
		}
		if op <= 2 {
			i.Imm <<= 12
		}
		if _, e := rv.Encode(i); e == api.OK {
			return i, true
		}
	}
	return rv.Ins{}, false
}

func TestRetired(t *testing.T) {
	m := newMem(t)
	pokeText(t, m, code, "addi x1, x1, 1\necall")
	for _, retired := range []int64{0, 1, math.MaxInt32, 1 << 32, 1<<40 - 1} {
		s := api.State{PC: code, Retired: retired}
		s, _ = steps(t, m, s)
		if s.Retired != retired+1 {
			t.Errorf("P12.2: Retired %d: %d behind a step", retired, s.Retired)
		}
		if s, _ = steps(t, m, s); s.Retired != retired+1 {
			t.Errorf("P12.2: Retired %d: %d behind an ecall", retired+1, s.Retired)
		}
	}
}

func TestAddress(t *testing.T) {
	for _, c := range []struct {
		i    rv.Ins
		want uint32
	}{
		{rv.Ins{Op: 13, Rd: 1, Rs1: 2, Imm: 8}, data + 8},
		{rv.Ins{Op: 13, Rd: 1, Rs1: 2, Imm: -2048}, data - 2048},
		{rv.Ins{Op: 18, Rs1: 2, Rs2: 3, Imm: 2047}, data + 2047},
		{rv.Ins{Op: 11, Rs1: 3, Imm: 1}, 0},
		{rv.Ins{Op: 11, Rs1: 31, Imm: -5}, ones},
		{rv.Ins{Op: 11, Rs1: 0, Imm: 5}, 5},
		{rv.Ins{Op: 16, Rs1: 0, Imm: -1}, ones},
		{rv.Ins{Op: 4, Rd: 2, Rs1: 2, Imm: 3}, data + 3},
		{rv.Ins{Op: 19, Rd: 2, Rs1: 2, Imm: -1}, data - 1},
		{rv.Ins{}, 0},
		{rv.Ins{Op: 13, Rs1: 2, Imm: math.MaxInt32}, data + math.MaxInt32},
		{rv.Ins{Op: 13, Rs1: 2, Imm: math.MinInt32}, data + least},
		{rv.Ins{Op: -1, Rd: -1, Rs1: 2, Rs2: 99, Imm: 1}, data + 1},
	} {
		s := with(code, map[int]uint32{0: 77, 2: data, 3: ones, 31: 4})
		if got := Address(c.i, s); got != c.want {
			t.Errorf("P12.2: Address(%+v): %#x, want %#x", c.i, got, c.want)
		}
	}
}

// TestAddressOfNone: registers that there are not have no number.
func TestAddressOfNone(t *testing.T) {
	for _, r := range []int{-1, 32, 33, 63, 64, -31, 256, 1 << 32, 1<<32 + 2, math.MaxInt, math.MinInt} {
		if got := Address(rv.Ins{Op: 13, Rs1: r, Imm: -8}, filled(code)); got != ones-7 {
			t.Errorf("R1: Address of x%d: %#x", r, got)
		}
	}
}

// TestProgram runs a whole program: what it reckons is what Go reckons.
func TestProgram(t *testing.T) {
	m := newMem(t)
	pokeText(t, m, code, `
		addi x5, x0, 1 # the factor
		addi x6, x0, 12
		jal x1, 12 # to the loop
		sw x5, 4(x2)
		ecall
		mul x5, x5, x6 # the loop
		addi x6, x6, -1
		bne x6, x0, -8
		jalr x0, 0(x1)`)
	s := with(code, map[int]uint32{2: data})
	var ev api.Event
	n := 0
	for ; ev.Kind == api.Next && n < 100; n++ {
		s, ev = steps(t, m, s)
	}
	if ev != (api.Event{Kind: api.Ecall, Addr: code + 16}) || n != 42 || s.Retired != 7+41 {
		t.Errorf("P12.2: a program: %d steps, %s, %v", n, show(s), ev)
	}
	if v, _ := m.Load(data+4, 4, api.R); v != 479001600 || s.X[1] != code+12 {
		t.Errorf("P12.2: a program's product: %d, %s", v, show(s))
	}
}

// TestAlone: what a step comes to hangs on its memory and its state alone.
func TestAlone(t *testing.T) {
	m := newMem(t)
	pokeText(t, m, code, "lw x1, 0(x2)\nsw x3, 0(x2)\njal x0, -8")
	s := with(code, map[int]uint32{2: data})
	for range 12 {
		other := m.Copy()
		Step(other, s)
		mine := m.Copy()
		got, ev := Step(mine, s)
		s2, ev2 := steps(t, m, s)
		if got != s2 || ev != ev2 || !maps.Equal(worldOf(t, mine), worldOf(t, m)) {
			t.Errorf("P12.2: twice the same: %s, %v and %s, %v", show(got), ev, show(s2), ev2)
		}
		s = s2
	}
}

// numbers are what registers bear in random steps, beside addresses.
var numbers = []uint32{0, 1, 2, 3, 4, 5, 31, 32, 33, 127, 128, 255, 256, 32767, 32768, 65535, 65536,
	least - 1, least, least + 1, ones - 1, ones}

func randomNumber(r *rand.Rand) uint32 {
	switch r.Intn(3) {
	case 0:
		return numbers[r.Intn(len(numbers))]
	case 1:
		return randomAddress(r)
	}
	return r.Uint32()
}

// randomAddress is one in a page or close by.
func randomAddress(r *rand.Rand) uint32 {
	addr := pages[r.Intn(len(pages))].addr + uint32(r.Intn(264)) - 4
	if r.Intn(4) != 0 {
		addr -= addr % 4
	}
	return addr
}

// randomIns is an instruction of an Op.
func randomIns(r *rand.Rand, op int) rv.Ins {
	small := func() int { return r.Intn(4) + 28*r.Intn(2) }
	for {
		imm := int32(r.Uint32()) >> (12 + r.Intn(20))
		if op >= 3 && op <= 10 {
			imm &^= 1
		}
		if i, ok := fit(op, small(), small(), small(), imm); ok {
			return i
		}
	}
}

// randomStep lays an instruction somewhere, and tells a state ahead of it:
// registers that lead to pages, and now and then two alike.
func randomStep(t *testing.T, r *rand.Rand, m *mem.Mem, op int) api.State {
	s := api.State{Retired: r.Int63n(1 << 40)}
	for n := range s.X {
		s.X[n] = randomNumber(r)
	}
	i := randomIns(r, op)
	if r.Intn(3) == 0 {
		s.X[i.Rs2] = s.X[i.Rs1]
	}
	if op >= 11 && op <= 18 || op == 4 && r.Intn(2) == 0 {
		s.X[i.Rs1] = randomAddress(r) - uint32(i.Imm)
	}
	s.PC = randomAddress(r) &^ 3
	if r.Intn(8) != 0 {
		s.PC = []uint32{first, code, beside, changing, last}[r.Intn(5)] + 4*uint32(r.Intn(64))
	}
	if w, e := rv.Encode(i); e == api.OK {
		m.Poke(s.PC, []byte{byte(w), byte(w >> 8), byte(w >> 16), byte(w >> 24)})
	}
	if r.Intn(16) == 0 {
		s.PC += uint32(r.Intn(4))
	}
	return s
}

// eventsOf tells what an Op may come to once it is fetched.
func eventsOf(op int) []int {
	switch {
	case op >= 3 && op <= 10:
		return []int{api.Next, api.Target}
	case op >= 11 && op <= 15:
		return []int{api.Next, api.Load}
	case op >= 16 && op <= 18:
		return []int{api.Next, api.Store}
	case op == 48:
		return []int{api.Ecall}
	case op == 49:
		return []int{api.Ebreak}
	}
	return []int{api.Next}
}

// TestBroadly holds random steps of each Op against the model.
func TestBroadly(t *testing.T) {
	r := rand.New(rand.NewSource(1212))
	m := newMem(t)
	for op := 1; op <= 49; op++ {
		var seen [8]int
		for range 400 {
			_, ev := steps(t, m, randomStep(t, r, m, op))
			seen[ev.Kind]++
		}
		for kind, n := range seen {
			may := kind == api.Fetch || slices.Contains(eventsOf(op), kind)
			if may != (n > 0) {
				t.Errorf("P12.2: of 400 random %s, %d came to the event %d", rv.Name(op), n, kind)
			}
		}
	}
}

// TestWalks runs random bytes, step by step, each step held against the model.
func TestWalks(t *testing.T) {
	r := rand.New(rand.NewSource(121212))
	for range 60 {
		m := newMem(t)
		for _, addr := range []uint32{first, code, beside, changing, last} {
			for at := uint32(0); at < api.Page; at += 4 {
				w, _ := rv.Encode(randomIns(r, 1+r.Intn(49)))
				pokeWord(t, m, addr+at, w)
			}
		}
		s := randomStep(t, r, m, 19)
		for range 60 {
			next, ev := steps(t, m, s)
			if ev.Kind != api.Next {
				next.PC = []uint32{first, code, beside, changing, last}[r.Intn(5)] + 4*uint32(r.Intn(64))
				next.X[1+r.Intn(31)] = randomAddress(r)
			}
			s = next
		}
	}
}
