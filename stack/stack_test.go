package stack

import (
	"bytes"
	"encoding/binary"
	"fmt"
	"math/rand"
	"slices"
	"strings"
	"testing"

	"tincture/api"
	"tincture/mem"
)

const end = 2147479552 // the first address behind the stack

// written lays a stack out as the chapter's paragraph has it: its two parts
// apart, and noughts around them.
func written(args []string) ([]byte, uint32, []Place) {
	texts := ""
	for _, a := range args {
		texts += a + "\x00"
	}
	first := end - len(texts)
	sp := first - 4*(len(args)+3)
	for sp%16 != 0 {
		sp--
	}
	numbers := binary.LittleEndian.AppendUint32(nil, uint32(len(args)))
	var places []Place
	at := first
	for _, a := range args {
		numbers = binary.LittleEndian.AppendUint32(numbers, uint32(at))
		places = append(places, Place{uint32(at), len(a)})
		at += len(a) + 1
	}
	numbers = append(numbers, 0, 0, 0, 0, 0, 0, 0, 0)
	b := make([]byte, sp-2147475456)
	b = append(b, numbers...)
	b = append(b, make([]byte, first-sp-len(numbers))...)
	return append(b, texts...), uint32(sp), places
}

// errorOf tells what Build asks of arguments.
func errorOf(args []string) api.Errno {
	if len(args) > 16 || strings.Contains(strings.Join(args, ""), "\x00") {
		return api.EARG
	}
	if len(strings.Join(args, "0"))+min(1, len(args)) > 3000 {
		return api.ELIMIT
	}
	return api.OK
}

// brief is what a message tells of arguments.
func brief(args []string) string {
	var lens []int
	for _, a := range args {
		lens = append(lens, len(a))
	}
	text := fmt.Sprintf("%+.40q", args)
	if len(text) > 200 {
		text = text[:200] + ".."
	}
	return fmt.Sprintf("%s, of lengths %v", text, lens)
}

// builds holds that Build answers the stack of arguments.
func builds(t *testing.T, args []string) {
	t.Helper()
	want, wantSP, wantPlaces := written(args)
	b, sp, places, e := Build(args)
	if e != api.OK || sp != wantSP || !slices.Equal(places, wantPlaces) {
		t.Errorf("P10.1: Build(%s): SP %d, places %v, %d, want SP %d, places %v", brief(args), sp, places, e, wantSP, wantPlaces)
	}
	if len(b) != 4096 || !bytes.Equal(b, want) {
		t.Errorf("P10.1: Build(%s): %d bytes, which are not those of the chapter", brief(args), len(b))
	}
}

// refused holds that Build and Lay answer an error, and nothing beside it.
func refused(t *testing.T, args []string, want api.Errno) {
	t.Helper()
	if b, sp, places, e := Build(args); e != want || len(b) != 0 || sp != 0 || len(places) != 0 {
		t.Errorf("P10.1: Build(%s): %d bytes, SP %d, places %v, %d, want the error %d", brief(args), len(b), sp, places, e, want)
	}
	m := newMem(t, api.MaxPages)
	if sp, places, e := Lay(m, args); e != want || sp != 0 || len(places) != 0 {
		t.Errorf("P10.1: Lay(%s): SP %d, places %v, %d, want the error %d", brief(args), sp, places, e, want)
	}
	if n := len(m.Pages()); n != 0 {
		t.Errorf("P10.1: Lay(%s): refused, but %d pages are there", brief(args), n)
	}
}

// asks holds Build against the chapter, whatever it asks.
func asks(t *testing.T, args []string) {
	t.Helper()
	if e := errorOf(args); e != api.OK {
		refused(t, args, e)
		return
	}
	builds(t, args)
}

func newMem(t *testing.T, budget int) *mem.Mem {
	t.Helper()
	m, e := mem.New(budget)
	if e != api.OK {
		t.Fatalf("mem.New(%d): %d", budget, e)
	}
	return m
}

func mapped(t *testing.T, m *mem.Mem, addr, n uint32, perm int) {
	t.Helper()
	if e := m.Map(addr, n, perm); e != api.OK {
		t.Fatalf("mem.Map(%d, %d, %d): %d", addr, n, perm, e)
	}
}

// gens tells Gen of the stack's pages and of those beside it.
func gens(m *mem.Mem) []uint32 {
	var list []uint32
	for addr := uint32(Base - api.Page); addr <= end; addr += api.Page {
		list = append(list, m.Gen(addr))
	}
	return list
}

// told tells all of a memory that a later call could tell of its pages: what
// may not be read is read in a copy.
func told(t *testing.T, m *mem.Mem) string {
	t.Helper()
	var text strings.Builder
	fmt.Fprint(&text, gens(m))
	other := m.Copy()
	for _, addr := range m.Pages() {
		perm, _ := m.Perm(addr)
		if e := other.Protect(addr, 1, api.R); e != api.OK {
			t.Fatalf("mem.Protect(%d): %d", addr, e)
		}
		b, _ := other.Read(addr, api.Page)
		fmt.Fprintf(&text, " %d: %d, %x", addr, perm, b)
	}
	return text.String()
}

// lays holds that a Lay answers what Build does, and that its bytes are there.
func lays(t *testing.T, m *mem.Mem, args []string) {
	t.Helper()
	want, wantSP, wantPlaces := written(args)
	sp, places, e := Lay(m, args)
	if e != api.OK || sp != wantSP || !slices.Equal(places, wantPlaces) {
		t.Errorf("P10.1: Lay(%s): SP %d, places %v, %d, want SP %d, places %v", brief(args), sp, places, e, wantSP, wantPlaces)
	}
	if b, e := m.Read(Base, Size); e != api.OK || !bytes.Equal(b, want) {
		t.Errorf("P10.1: Lay(%s): its bytes are not there (%d)", brief(args), e)
	}
	for addr := uint32(Base); addr < end; addr += api.Page {
		if perm, there := m.Perm(addr); perm != 3 || !there {
			t.Errorf("P10.1: Lay(%s): the page at %d has perm %d, %v, want 3", brief(args), addr, perm, there)
		}
	}
}

// laysNot holds that a Lay answers an error, and changes nothing.
func laysNot(t *testing.T, m *mem.Mem, args []string, want api.Errno) {
	t.Helper()
	before := told(t, m)
	if sp, places, e := Lay(m, args); e != want || sp != 0 || len(places) != 0 {
		t.Errorf("P10.1: Lay(%s): SP %d, places %v, %d, want the error %d", brief(args), sp, places, e, want)
	}
	if told(t, m) != before {
		t.Errorf("R3: Lay(%s): refused, but the memory is another one", brief(args))
	}
}

func TestWhere(t *testing.T) {
	if Base != 2147475456 || Size != 4096 || Base+Size != end {
		t.Errorf("P10.1: Base %d, Size %d", Base, Size)
	}
}

func TestExample(t *testing.T) {
	for _, none := range [][]string{nil, {}} {
		b, sp, places, e := Build(none)
		if e != api.OK || sp != 2147479536 || len(places) != 0 || !bytes.Equal(b, make([]byte, 4096)) {
			t.Errorf("P10.1: Build of none: SP %d, places %v, %d", sp, places, e)
		}
	}
}

// TestLayout holds one stack byte by byte.
func TestLayout(t *testing.T) {
	args := []string{"prog", "", "-v"}
	// They have 5, 1 and 3 bytes, so the first is 9 ahead of the end, at
	// 0x7fffeff7. 24 less is 0x7fffefdf, down to 0x7fffefd0: 48 ahead of it.
	want := append(make([]byte, 4096-48),
		3, 0, 0, 0,
		0xf7, 0xef, 0xff, 0x7f, 0xfc, 0xef, 0xff, 0x7f, 0xfd, 0xef, 0xff, 0x7f,
		0, 0, 0, 0, 0, 0, 0, 0,
		0, 0, 0, 0, 0, 0, 0, 0, 0, 0, 0, 0, 0, 0, 0,
		'p', 'r', 'o', 'g', 0, 0, '-', 'v', 0)
	places := []Place{{0x7fffeff7, 4}, {0x7fffeffc, 0}, {0x7fffeffd, 2}}
	b, sp, l, e := Build(args)
	if e != api.OK || sp != 0x7fffefd0 || !slices.Equal(l, places) || !bytes.Equal(b, want) {
		t.Errorf("P10.1: Build: SP %#x, places %v, %d, the last bytes %x", sp, l, e, b[max(0, len(b)-48):])
	}
	b, sp, l = written(args)
	if sp != 0x7fffefd0 || !slices.Equal(l, places) || !bytes.Equal(b, want) {
		t.Errorf("the reference: SP %#x, places %v, the last bytes %x", sp, l, b[len(b)-48:])
	}
}

func TestCounts(t *testing.T) {
	for _, a := range []string{"", "x", "abc", strings.Repeat("y", 186)} {
		for n := range 17 {
			builds(t, slices.Repeat([]string{a}, n))
		}
		for _, n := range []int{17, 18, 32, 255, 256, 272, 1000, 65536} {
			refused(t, slices.Repeat([]string{a}, n), api.EARG)
		}
	}
}

func TestLengths(t *testing.T) {
	for n := range 3000 {
		builds(t, []string{strings.Repeat("x", n)})
	}
	for _, n := range []int{3000, 3001, 3002, 3003, 4000, 4095, 4096, 4097, 65535, 65536, 1 << 20} {
		refused(t, []string{strings.Repeat("x", n)}, api.ELIMIT)
	}
}

// TestRoom holds the bound of 3000 bytes for each count of arguments, and
// wherever the greater part of them is.
func TestRoom(t *testing.T) {
	for count := 1; count <= 16; count++ {
		for place := range count {
			for _, small := range []string{"", "x", "abcde"} {
				args := slices.Repeat([]string{small}, count)
				left := 3000 - (count-1)*(len(small)+1) - 1
				args[place] = strings.Repeat("z", left)
				builds(t, args)
				for more := 1; more < 20; more++ {
					args[place] += "z"
					refused(t, args, api.ELIMIT)
				}
			}
		}
	}
}

// TestSP holds where SP is for each count of arguments and at each remainder of
// the first one's place.
func TestSP(t *testing.T) {
	for count := 1; count <= 16; count++ {
		for n := range 33 {
			args := append(make([]string, count-1), strings.Repeat("q", n))
			builds(t, args)
			_, sp, places, _ := Build(args)
			gap := int(places[0].Addr) - int(sp) - 4*(count+3)
			if sp%16 != 0 || gap < 0 || gap > 15 {
				t.Errorf("P10.1: Build(%s): SP %d, the first at %d", brief(args), sp, places[0].Addr)
			}
		}
	}
}

func TestNoughts(t *testing.T) {
	for v := range 256 {
		asks(t, []string{string([]byte{byte(v)})})
		asks(t, []string{"a", string([]byte{'b', byte(v), 'c'})})
	}
	for place := range 16 {
		for at := range 3 {
			args := slices.Repeat([]string{"xyz"}, 16)
			a := []byte(args[place])
			a[at] = 0
			args[place] = string(a)
			refused(t, args, api.EARG)
		}
	}
	long := strings.Repeat("x", 2998)
	refused(t, []string{long + "\x00"}, api.EARG)
	refused(t, []string{"\x00" + long}, api.EARG)
	builds(t, []string{"\xff\xfe\x80\x01", "\n\t ", "\u00e9", "0", "\\0"})
}

// TestWhichError holds that EARG is ahead of ELIMIT, wherever the bytes are.
func TestWhichError(t *testing.T) {
	long := strings.Repeat("x", 3000)
	for _, args := range [][]string{
		{long + "\x00"},
		{long, "\x00"},
		{"\x00", long},
		{long, long, "a\x00"},
		slices.Repeat([]string{long}, 17),
		append(make([]string, 16), long),
		append([]string{long}, make([]string, 16)...),
		slices.Repeat([]string{long + "\x00"}, 17),
	} {
		refused(t, args, api.EARG)
	}
	refused(t, slices.Repeat([]string{long}, 16), api.ELIMIT)
}

// someArgs makes arguments near what may be, and now and then beyond.
func someArgs(r *rand.Rand) []string {
	var args []string
	most := 1 + r.Intn(1+3400/(1+r.Intn(18)))
	for range r.Intn(18) {
		a := make([]byte, r.Intn(most))
		for i := range a {
			a[i] = byte(1 + r.Intn(255))
		}
		if len(a) > 0 && r.Intn(60) == 0 {
			a[r.Intn(len(a))] = 0
		}
		args = append(args, string(a))
	}
	return args
}

func TestRandom(t *testing.T) {
	r := rand.New(rand.NewSource(10))
	seen := [8]int{}
	for range 1500 {
		args := someArgs(r)
		asks(t, args)
		seen[errorOf(args)]++
		if errorOf(args) == api.OK {
			lays(t, newMem(t, 16), args)
		}
	}
	if seen[api.OK] < 100 || seen[api.EARG] < 100 || seen[api.ELIMIT] < 100 {
		t.Errorf("too few of a kind: %v", seen)
	}
}

func TestLay(t *testing.T) {
	for _, args := range [][]string{nil, {}, {""}, {"p"}, {"ab", "", "c"}, slices.Repeat([]string{"x"}, 16), {strings.Repeat("x", 2999)}} {
		for _, budget := range []int{16, 17, api.MaxPages} {
			m := newMem(t, budget)
			lays(t, m, args)
			if pages := m.Pages(); len(pages) != 16 || pages[0] != Base || pages[15] != end-api.Page {
				t.Errorf("P10.1: Lay(%s): the pages are %v", brief(args), pages)
			}
			if e := m.Write(Base, []byte{1}); e != api.OK {
				t.Errorf("P10.1: Lay(%s): its first byte may not be written: %d", brief(args), e)
			}
			if _, f := m.Load(end-4, 4, api.X); f != api.Barred {
				t.Errorf("P10.1: Lay(%s): its last word may be run: %d", brief(args), f)
			}
		}
	}
}

// TestLayBeside holds that what is beside the stack stays as it was.
func TestLayBeside(t *testing.T) {
	m := newMem(t, 20)
	around := []uint32{0, Base - api.Page, end, 1<<32 - api.Page}
	for _, addr := range around {
		mapped(t, m, addr, api.Page, api.R|api.W)
		if e := m.Write(addr, bytes.Repeat([]byte{0xa5}, api.Page)); e != api.OK {
			t.Fatalf("mem.Write(%d): %d", addr, e)
		}
		if e := m.Protect(addr, api.Page, api.R|api.X); e != api.OK {
			t.Fatalf("mem.Protect(%d): %d", addr, e)
		}
	}
	lays(t, m, []string{"one", "two"})
	for _, addr := range around {
		b, e := m.Read(addr, api.Page)
		perm, _ := m.Perm(addr)
		if e != api.OK || !bytes.Equal(b, bytes.Repeat([]byte{0xa5}, api.Page)) || perm != api.R|api.X || m.Gen(addr) != 3 {
			t.Errorf("P10.1: Lay: the page at %d is another one", addr)
		}
	}
	if n := len(m.Pages()); n != 20 {
		t.Errorf("P10.1: Lay: %d pages", n)
	}
}

// TestLayThere holds that Lay is refused, if but one of the stack's pages is
// there.
func TestLayThere(t *testing.T) {
	for addr := uint32(Base); addr < end; addr += api.Page {
		for _, perm := range []int{0, 3, 7} {
			for _, budget := range []int{1, 16, api.MaxPages} {
				m := newMem(t, budget)
				mapped(t, m, addr, 1, perm)
				if e := m.Poke(addr+7, []byte{9}); e != api.OK {
					t.Fatalf("mem.Poke(%d): %d", addr+7, e)
				}
				laysNot(t, m, []string{"p"}, api.EEXIST)
			}
		}
	}
	m := newMem(t, api.MaxPages)
	lays(t, m, []string{"p", "q"})
	laysNot(t, m, []string{"p", "q"}, api.EEXIST)
	laysNot(t, m, nil, api.EEXIST)
}

func TestLayWithoutRoom(t *testing.T) {
	for budget := 1; budget <= 15; budget++ {
		laysNot(t, newMem(t, budget), []string{"p"}, api.EFULL)
	}
	for _, c := range []struct {
		budget, taken int
		want          api.Errno
	}{{16, 1, api.EFULL}, {20, 5, api.EFULL}, {20, 4, api.OK}, {4096, 4081, api.EFULL}, {4096, 4080, api.OK}} {
		m := newMem(t, c.budget)
		mapped(t, m, 0, uint32(c.taken)*api.Page, api.R)
		if c.want == api.OK {
			lays(t, m, []string{"p"})
			continue
		}
		laysNot(t, m, []string{"p"}, c.want)
	}
}

// TestLayWhichError holds that Build's error is ahead of mem's.
func TestLayWhichError(t *testing.T) {
	there := newMem(t, 16)
	mapped(t, there, Base, 1, 7)
	for _, m := range []*mem.Mem{there, newMem(t, 15)} {
		laysNot(t, m, make([]string, 17), api.EARG)
		laysNot(t, m, []string{"a\x00b"}, api.EARG)
		laysNot(t, m, []string{strings.Repeat("x", 3000)}, api.ELIMIT)
		laysNot(t, m, []string{strings.Repeat("x", 3000), "\x00"}, api.EARG)
	}
	laysNot(t, there, []string{strings.Repeat("x", 2999)}, api.EEXIST)
}

// TestLayOnceMore holds that nothing of an earlier stack is left.
func TestLayOnceMore(t *testing.T) {
	m := newMem(t, 16)
	lays(t, m, slices.Repeat([]string{strings.Repeat("x", 186)}, 16))
	if e := m.Unmap(Base, Size); e != api.OK {
		t.Fatalf("mem.Unmap: %d", e)
	}
	lays(t, m, []string{"p"})
	other := newMem(t, 16)
	lays(t, other, []string{"q"})
	want, _, _ := written([]string{"p"})
	if b, e := m.Read(Base, Size); e != api.OK || !bytes.Equal(b, want) {
		t.Errorf("R5: a Lay into another memory has changed this one (%d)", e)
	}
}

// TestMemory holds that arguments are not changed, also their spare room, and
// that what is answered is new memory.
func TestMemory(t *testing.T) {
	room := []string{"a", "bc", "", "spare", "room"}
	args := room[:3:5]
	m := newMem(t, 16)
	b, _, places, _ := Build(args)
	_, laid, _ := Lay(m, args)
	if !slices.Equal(room, []string{"a", "bc", "", "spare", "room"}) {
		t.Errorf("R4: the arguments are now %q", room)
	}
	want, wantSP, wantPlaces := written(args)
	for i := range b[:cap(b)] {
		b[:cap(b)][i] = 0xee
	}
	for _, list := range [][]Place{places, laid} {
		for i := range list[:cap(list)] {
			list[:cap(list)][i] = Place{1, 2}
		}
	}
	room[0] = "changed"
	if now, e := m.Read(Base, Size); e != api.OK || !bytes.Equal(now, want) {
		t.Errorf("R4: Lay keeps memory of what it answered (%d)", e)
	}
	c, sp, again, e := Build([]string{"a", "bc", ""})
	if e != api.OK || sp != wantSP || !slices.Equal(again, wantPlaces) || !bytes.Equal(c, want) {
		t.Errorf("R4: Build after a change of what it answered: SP %d, places %v, %d", sp, again, e)
	}
}
