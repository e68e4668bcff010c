package feed

import (
	"bytes"
	"encoding/binary"
	"fmt"
	"io"
	"math"
	"math/rand"
	"slices"
	"strings"
	"testing"

	"tincture/api"
)

// written lays a feed out as the chapter's paragraph 'Bytes' has it, whether or
// not it may be, cutting each number to four bytes.
func written(f Feed) []byte {
	var b bytes.Buffer
	number := func(n int) { binary.Write(&b, binary.LittleEndian, uint32(n)) }
	text := func(s string) {
		number(len(s))
		b.WriteString(s)
	}
	number(len(f.Args))
	for _, a := range f.Args {
		text(a)
	}
	text(string(f.Input))
	number(len(f.Short))
	for _, n := range f.Short {
		number(n)
	}
	text(string(f.Random))
	number(len(f.Clock))
	binary.Write(&b, binary.LittleEndian, f.Clock)
	number(len(f.Files))
	for _, file := range f.Files {
		text(file.Name)
		text(string(file.Data))
	}
	return b.Bytes()
}

// read is Get, told by a library's reader: it reads first whatever there is,
// and asks then whether it may be.
func read(b []byte) (Feed, api.Errno) {
	r := bytes.NewReader(b)
	whole := true
	number := func() int {
		var w uint32
		if binary.Read(r, binary.LittleEndian, &w) != nil {
			whole = false
			return 0
		}
		return int(w)
	}
	text := func() []byte {
		s := make([]byte, min(number(), r.Len()+1))
		if _, e := io.ReadFull(r, s); e != nil {
			whole = false
		}
		return s
	}
	var f Feed
	for n := number(); n > 0 && whole; n-- {
		f.Args = append(f.Args, string(text()))
	}
	f.Input = text()
	for n := number(); n > 0 && whole; n-- {
		f.Short = append(f.Short, number())
	}
	f.Random = text()
	for n := number(); n > 0 && whole; n-- {
		f.Clock = append(f.Clock, uint32(number()))
	}
	for n := number(); n > 0 && whole; n-- {
		f.Files = append(f.Files, File{string(text()), text()})
	}
	if !whole || r.Len() > 0 || !mayBe(f) {
		return Feed{}, api.EFORM
	}
	return f, api.OK
}

// mayBe is Good, told by counts of names and by what may not stand in a text.
func mayBe(f Feed) bool {
	for _, a := range f.Args {
		if len(a) > 200 || strings.Contains(a, "\x00") {
			return false
		}
	}
	for _, n := range f.Short {
		if n < 0 || n > 4096 {
			return false
		}
	}
	names := map[string]int{}
	for _, file := range f.Files {
		names[file.Name]++
		if n := len(file.Name); n < 1 || n > 40 || strings.Contains(file.Name, "\x00") || len(file.Data) > 4096 {
			return false
		}
	}
	return len(f.Args) <= 16 && len(f.Input) <= 4096 && len(f.Short) <= 64 && len(f.Random) <= 4096 &&
		len(f.Clock) <= 64 && len(f.Files) <= 8 && len(names) == len(f.Files)
}

func equal(f, g Feed) bool {
	return slices.Equal(f.Args, g.Args) && bytes.Equal(f.Input, g.Input) && slices.Equal(f.Short, g.Short) &&
		bytes.Equal(f.Random, g.Random) && slices.Equal(f.Clock, g.Clock) &&
		slices.EqualFunc(f.Files, g.Files, func(a, b File) bool { return a.Name == b.Name && bytes.Equal(a.Data, b.Data) })
}

func isZero(f Feed) bool {
	return len(f.Args)+len(f.Input)+len(f.Short)+len(f.Random)+len(f.Clock)+len(f.Files) == 0
}

// fits holds that a feed may be, and that it and its bytes go there and back.
func fits(t *testing.T, what string, f Feed) {
	t.Helper()
	if !Good(f) {
		t.Errorf("P9.1: Good, %s: false", what)
	}
	want := written(f)
	if b, e := Put(f); e != api.OK || !bytes.Equal(b, want) {
		t.Errorf("P9.1: Put, %s: %s, %d, want %s", what, short(b), e, short(want))
	}
	if g, e := Get(want); e != api.OK || !equal(g, f) {
		t.Errorf("P9.1: Get, %s: %s, %d, want %s", what, short(written(g)), e, short(written(f)))
	}
}

// refused holds that a feed may not be, and begins as an empty one.
func refused(t *testing.T, what string, f Feed) {
	t.Helper()
	if Good(f) {
		t.Errorf("P9.1: Good, %s: true", what)
	}
	if b, e := Put(f); e != api.EARG || len(b) != 0 {
		t.Errorf("P9.1: Put, %s: %d bytes, %d, want EARG", what, len(b), e)
	}
	u := Begin(f)
	n, r, c := u.Take(99), u.Bytes(5), u.Time()
	if n != 99 || !bytes.Equal(r, make([]byte, 5)) || c != 0 {
		t.Errorf("P9.1: Begin, %s: Take %d, Bytes %v, Time %d", what, n, r, c)
	}
	holds(t, what, u, 0, 0, 0)
}

// formless holds that bytes are none.
func formless(t *testing.T, what string, b []byte) {
	t.Helper()
	if f, e := Get(b); e != api.EFORM || !isZero(f) {
		t.Errorf("P9.1: Get, %s: %s, %d, want EFORM", what, short(written(f)), e)
	}
}

// bound holds that a feed may be or not, and its bytes just as it.
func bound(t *testing.T, what string, f Feed, good bool) {
	t.Helper()
	if good {
		fits(t, what, f)
		return
	}
	refused(t, what, f)
	formless(t, what, written(f))
}

// holds holds how much was used.
func holds(t *testing.T, what string, u *Use, short, random, clock int) {
	t.Helper()
	if a, b, c := u.Used(); a != short || b != random || c != clock {
		t.Errorf("P9.1: Used, %s: %d %d %d, want %d %d %d", what, a, b, c, short, random, clock)
	}
}

// short is what a message tells of bytes.
func short(b []byte) string {
	if len(b) > 100 {
		return fmt.Sprintf("%x.. (%d bytes)", b[:100], len(b))
	}
	return fmt.Sprintf("%x", b)
}

func takes(t *testing.T, u *Use, n, want int) {
	t.Helper()
	if got := u.Take(n); got != want {
		t.Errorf("P9.1: Take(%d): %d, want %d", n, got, want)
	}
}

func gives(t *testing.T, u *Use, n int, want []byte) {
	t.Helper()
	if got := u.Bytes(n); !bytes.Equal(got, want) {
		t.Errorf("P9.1: Bytes(%d): %s, want %s", n, short(got), short(want))
	}
}

func tells(t *testing.T, u *Use, want uint32) {
	t.Helper()
	if got := u.Time(); got != want {
		t.Errorf("P9.1: Time: %d, want %d", got, want)
	}
}

// sample has some of all.
func sample() Feed {
	return Feed{
		Args:   []string{"prog", "", "a b", "\xff\x01\x80"},
		Input:  []byte("in\x00put"),
		Short:  []int{3, 0, 4096, 1, 258},
		Random: []byte{1, 2, 0, 4, 255, 6, 7},
		Clock:  []uint32{7, 0, math.MaxUint32, 0x01020304},
		Files:  []File{{"f", []byte("data\x00")}, {"F", nil}, {"ff", []byte{0}}, {"\xfe\x01", []byte("x")}},
	}
}

// full is at every bound at once.
func full() Feed {
	f := Feed{
		Input:  bytes.Repeat([]byte{1, 0}, 2048),
		Short:  slices.Repeat([]int{4096}, 64),
		Random: bytes.Repeat([]byte{9}, 4096),
		Clock:  slices.Repeat([]uint32{math.MaxUint32}, 64),
	}
	for n := range 16 {
		f.Args = append(f.Args, strings.Repeat(string(rune('a'+n)), 200))
	}
	for n := range 8 {
		name := strings.Repeat("n", 39) + string(rune('a'+n))
		f.Files = append(f.Files, File{name, bytes.Repeat([]byte{byte(n)}, 4096)})
	}
	return f
}

func empty() Feed {
	return Feed{Args: []string{}, Input: []byte{}, Short: []int{}, Random: []byte{}, Clock: []uint32{}, Files: []File{}}
}

func TestExample(t *testing.T) {
	u := Begin(Feed{Short: []int{3}})
	takes(t, u, 5, 3)
	takes(t, u, 5, 5)
	holds(t, "the chapter's example", u, 1, 0, 0)
}

func TestLayout(t *testing.T) {
	f := Feed{
		Args:   []string{"ab", ""},
		Input:  []byte{5},
		Short:  []int{0x0102, 4096},
		Random: []byte{6, 0, 7},
		Clock:  []uint32{0x01020304},
		Files:  []File{{"n", []byte{8, 9}}, {"m", nil}},
	}
	want := []byte{
		2, 0, 0, 0, 2, 0, 0, 0, 'a', 'b', 0, 0, 0, 0,
		1, 0, 0, 0, 5,
		2, 0, 0, 0, 2, 1, 0, 0, 0, 16, 0, 0,
		3, 0, 0, 0, 6, 0, 7,
		1, 0, 0, 0, 4, 3, 2, 1,
		2, 0, 0, 0, 1, 0, 0, 0, 'n', 2, 0, 0, 0, 8, 9, 1, 0, 0, 0, 'm', 0, 0, 0, 0,
	}
	if b, e := Put(f); e != api.OK || !bytes.Equal(b, want) {
		t.Errorf("P9.1: Put: %v, %d, want %v", b, e, want)
	}
	if g, e := Get(want); e != api.OK || !equal(g, f) {
		t.Errorf("P9.1: Get: %+v, %d, want %+v", g, e, f)
	}
	long := Feed{Input: make([]byte, 0x0e0d), Random: make([]byte, 0x0c0b), Files: []File{{"n", make([]byte, 0x0a09)}}}
	b, _ := Put(long)
	for _, c := range []struct {
		at   int
		want uint32
	}{{4, 0x0e0d}, {12 + 0x0e0d, 0x0c0b}, {29 + 0x0e0d + 0x0c0b, 0x0a09}} {
		if len(b) < c.at+4 || binary.LittleEndian.Uint32(b[c.at:]) != c.want {
			t.Errorf("P9.1: Put: the number at %d is not %d", c.at, c.want)
		}
	}
}

func TestThereAndBack(t *testing.T) {
	fits(t, "a sample", sample())
	fits(t, "all at their bounds", full())
	fits(t, "nothing", Feed{})
	fits(t, "empty lists", empty())
	if b, e := Put(empty()); e != api.OK || !bytes.Equal(b, make([]byte, 24)) {
		t.Errorf("P9.1: Put of an empty one: %v, %d", b, e)
	}
}

// alone has one of the parts of a feed, and the others of none.
func alone(part int) Feed {
	var f Feed
	s := sample()
	switch part {
	case 0:
		f.Args = s.Args
	case 1:
		f.Input = s.Input
	case 2:
		f.Short = s.Short
	case 3:
		f.Random = s.Random
	case 4:
		f.Clock = s.Clock
	case 5:
		f.Files = s.Files
	}
	return f
}

func TestPartsAlone(t *testing.T) {
	for part := range 6 {
		fits(t, "one part alone", alone(part))
	}
}

func TestArgs(t *testing.T) {
	for _, n := range []int{0, 1, 15, 16, 17, 18, 64, 300} {
		bound(t, "so many Args", Feed{Args: make([]string, n)}, n <= 16)
		bound(t, "so many Args", Feed{Args: slices.Repeat([]string{"x"}, n)}, n <= 16)
	}
	for _, n := range []int{0, 1, 199, 200, 201, 255, 256, 4096, 70000} {
		bound(t, "an Arg so long", Feed{Args: []string{strings.Repeat("x", n)}}, n <= 200)
	}
	for place := range 16 {
		f := full()
		f.Args[place] += "x"
		bound(t, "an Arg too long among others", f, false)
		for _, at := range []int{0, 1, 100, 198, 199} {
			f = full()
			a := []byte(f.Args[place])
			a[at] = 0
			f.Args[place] = string(a)
			bound(t, "a byte 0 in an Arg", f, false)
		}
	}
	for v := range 256 {
		bound(t, "a byte as an Arg", Feed{Args: []string{string([]byte{byte(v)})}}, v != 0)
	}
	bound(t, "Args that are alike", Feed{Args: []string{"x", "x", "x"}}, true)
}

func TestInputAndRandom(t *testing.T) {
	for _, n := range []int{0, 1, 255, 4095, 4096, 4097, 4098, 8192, 65536} {
		bound(t, "Input so long", Feed{Input: make([]byte, n)}, n <= 4096)
		bound(t, "Random so long", Feed{Random: make([]byte, n)}, n <= 4096)
	}
	var all []byte
	for v := range 256 {
		all = append(all, byte(v))
	}
	bound(t, "Input and Random of any bytes", Feed{Input: all, Random: all}, true)
}

func TestShort(t *testing.T) {
	for _, n := range []int{0, 1, 63, 64, 65, 66, 128, 1000} {
		bound(t, "so many Short", Feed{Short: make([]int, n)}, n <= 64)
	}
	for _, n := range []int{0, 1, 255, 256, 4095, 4096, 4097, 65536, 1 << 24, math.MaxInt32, math.MaxUint32, -1, -4096, math.MinInt32} {
		bound(t, "a Short so great", Feed{Short: []int{n}}, n >= 0 && n <= 4096)
	}
	// These would be small, if they were cut to four bytes.
	for _, n := range []int{1 << 32, 1<<32 + 5, -1 << 32, 5 - 1<<32, math.MinInt, math.MaxInt} {
		refused(t, "a Short beyond four bytes", Feed{Short: []int{n}})
	}
	for place := range 64 {
		for _, n := range []int{-1, 4097} {
			f := full()
			f.Short[place] = n
			bound(t, "a Short out of bounds among others", f, false)
		}
	}
}

func TestClock(t *testing.T) {
	for _, n := range []int{0, 1, 63, 64, 65, 66, 128, 1000} {
		bound(t, "so many Clock", Feed{Clock: make([]uint32, n)}, n <= 64)
	}
	bound(t, "Clock of any numbers", Feed{Clock: []uint32{0, 1, 4097, 1 << 31, math.MaxUint32, 5, 5}}, true)
}

// named has that many files with names unlike.
func named(n int) []File {
	var list []File
	for k := range n {
		list = append(list, File{Name: "f" + string(rune('a'+k))})
	}
	return list
}

func TestFiles(t *testing.T) {
	for _, n := range []int{0, 1, 7, 8, 9, 10, 20} {
		bound(t, "so many Files", Feed{Files: named(n)}, n <= 8)
	}
	for _, n := range []int{0, 1, 2, 39, 40, 41, 42, 200, 4096, 70000} {
		bound(t, "a Name so long", Feed{Files: []File{{Name: strings.Repeat("x", n)}}}, n >= 1 && n <= 40)
	}
	for _, n := range []int{0, 1, 4095, 4096, 4097, 8192, 65536} {
		bound(t, "Data so long", Feed{Files: []File{{"f", make([]byte, n)}}}, n <= 4096)
	}
	for v := range 256 {
		bound(t, "a byte as a Name", Feed{Files: []File{{Name: string([]byte{byte(v)})}}}, v != 0)
	}
	for place := range 8 {
		for _, do := range []func(f *File){
			func(f *File) { f.Name = "" },
			func(f *File) { f.Name += "x" },
			func(f *File) { f.Name = "\x00" + f.Name[1:] },
			func(f *File) { f.Name = f.Name[:39] + "\x00" },
			func(f *File) { f.Name = f.Name[:20] + "\x00" + f.Name[21:] },
			func(f *File) { f.Data = append(f.Data, 1) },
		} {
			f := full()
			do(&f.Files[place])
			bound(t, "a File out of bounds among others", f, false)
		}
	}
}

func TestNamesAlike(t *testing.T) {
	for a := range 8 {
		for b := range a {
			f := Feed{Files: named(8)}
			f.Files[a].Name = f.Files[b].Name
			bound(t, "two Names alike", f, false)
			f.Files[a].Data = []byte("other")
			bound(t, "two Names alike, Data unlike", f, false)
		}
	}
	bound(t, "Data alike", Feed{Files: []File{{"a", []byte("x")}, {"b", []byte("x")}}}, true)
	bound(t, "Names nearly alike", Feed{Files: []File{{Name: "a"}, {Name: "A"}, {Name: "aa"}, {Name: " a"}, {Name: "a "}}}, true)
	bound(t, "a Name that an Arg is", Feed{Args: []string{"a"}, Files: []File{{Name: "a"}}}, true)
}

func TestCutOff(t *testing.T) {
	for part := range 6 {
		b := written(alone(part))
		for n := range b {
			formless(t, "cut off", b[:n:n])
			formless(t, "cut off, the rest in spare room", b[:n])
		}
	}
	f := full()
	b := written(f)
	for _, at := range numbersOf(f) {
		for n := max(0, at-3); n < min(len(b), at+8); n++ {
			formless(t, "cut off about a number", b[:n])
		}
	}
	for _, f := range []Feed{sample(), full(), {}} {
		b := written(f)
		for n := max(0, len(b)-5000); n < len(b); n++ {
			formless(t, "cut off", b[:n])
		}
		for _, more := range [][]byte{{0}, {1}, {255}, {0, 0, 0, 0}, make([]byte, 24), b} {
			formless(t, "more behind", slices.Concat(b, more))
		}
	}
	formless(t, "nothing", nil)
	formless(t, "an empty list", []byte{})
}

// numbersOf tells the places of all numbers of a feed's bytes but Short's and
// Clock's: those that tell of how many.
func numbersOf(f Feed) []int {
	var places []int
	at := 0
	tell := func(behind int) {
		places = append(places, at)
		at += 4 + behind
	}
	tell(0)
	for _, a := range f.Args {
		tell(len(a))
	}
	tell(len(f.Input))
	tell(4 * len(f.Short))
	tell(len(f.Random))
	tell(4 * len(f.Clock))
	tell(0)
	for _, file := range f.Files {
		tell(len(file.Name))
		tell(len(file.Data))
	}
	return places
}

func TestNumbersOfMoreThanIsThere(t *testing.T) {
	for _, f := range []Feed{sample(), full(), {}, alone(0), alone(2), alone(4), alone(5)} {
		b := written(f)
		places := numbersOf(f)
		if last := places[len(places)-1]; last > len(b)-4 {
			t.Fatalf("the test's own places go beyond the bytes: %d", last)
		}
		for _, at := range places {
			n := binary.LittleEndian.Uint32(b[at:])
			for _, told := range []uint32{uint32(len(b) - at), uint32(len(b)-at) - 3, 65536, 1 << 24, math.MaxInt32, 1 << 31, 1<<31 + n, 1<<30 + n, 1<<16 + n, math.MaxUint32, math.MaxUint32 - 3} {
				c := slices.Clone(b)
				binary.LittleEndian.PutUint32(c[at:], told)
				formless(t, "a number of more than is there", c)
			}
		}
	}
}

// A number that is one off moves all behind it; what comes of it is what the
// reader apart says.
func TestNumbersOneOff(t *testing.T) {
	for _, f := range []Feed{sample(), {}, alone(0), alone(1), alone(2), alone(3), alone(4), alone(5)} {
		b := written(f)
		for _, at := range numbersOf(f) {
			for _, by := range []uint32{1, 2, 4, math.MaxUint32, math.MaxUint32 - 3} {
				c := slices.Clone(b)
				binary.LittleEndian.PutUint32(c[at:], binary.LittleEndian.Uint32(b[at:])+by)
				asTold(t, c)
			}
		}
	}
}

// Bytes may be many and tell of many, and are none all the same.
func TestManyBytes(t *testing.T) {
	for _, n := range []uint32{17, 65, 1 << 20, 1 << 24} {
		for place := range 6 {
			b := make([]byte, 1<<22)
			binary.LittleEndian.PutUint32(b[4*place:], n)
			formless(t, "many bytes", b)
		}
	}
	formless(t, "many noughts", make([]byte, 1<<22))
}

func asTold(t *testing.T, b []byte) bool {
	t.Helper()
	before := slices.Clone(b)
	want, fault := read(b)
	f, e := Get(b)
	if e != fault || !equal(f, want) {
		t.Fatalf("P9.1: Get(%x): %+v, %d, want %+v, %d", b, f, e, want, fault)
	}
	if !bytes.Equal(b, before) {
		t.Fatalf("R4: Get changed its bytes")
	}
	if e != api.OK {
		return false
	}
	if c, e := Put(f); e != api.OK || !bytes.Equal(c, b) {
		t.Fatalf("P9.1: Put of Get(%x): %x, %d", b, c, e)
	}
	return true
}

func some(r *rand.Rand, most int) string {
	b := make([]byte, r.Intn(most+1))
	for n := range b {
		b[n] = byte(r.Intn(4)) * 63
	}
	return string(b)
}

func anyFeed(r *rand.Rand) Feed {
	var f Feed
	for range r.Intn(4) {
		f.Args = append(f.Args, strings.ReplaceAll(some(r, 4), "\x00", "x"))
	}
	f.Input = []byte(some(r, 6))
	for range r.Intn(4) {
		f.Short = append(f.Short, r.Intn(4097))
	}
	f.Random = []byte(some(r, 6))
	for range r.Intn(4) {
		f.Clock = append(f.Clock, r.Uint32())
	}
	for range r.Intn(4) {
		f.Files = append(f.Files, File{"f" + strings.ReplaceAll(some(r, 2), "\x00", "x"), []byte(some(r, 6))})
	}
	return f
}

func TestAnyFeeds(t *testing.T) {
	r := rand.New(rand.NewSource(9))
	good := 0
	for range 20000 {
		f := anyFeed(r)
		bound(t, "any feed", f, mayBe(f))
		if mayBe(f) {
			good++
		}
	}
	if good < 1000 {
		t.Errorf("only %d of the feeds were good", good)
	}
}

func TestAnyBytes(t *testing.T) {
	r := rand.New(rand.NewSource(99))
	got := 0
	for range 100000 {
		b := written(anyFeed(r))
		for range r.Intn(4) {
			b[r.Intn(len(b))] = byte(r.Intn(6))
		}
		if r.Intn(4) == 0 {
			b = b[:r.Intn(len(b)+1)]
		}
		if asTold(t, b) {
			got++
		}
	}
	for range 20000 {
		b := make([]byte, r.Intn(60))
		for n := range b {
			b[n] = byte(r.Intn(8) / 6)
		}
		asTold(t, b)
	}
	if got < 1000 {
		t.Errorf("only %d of the bytes were a feed", got)
	}
}

func TestTake(t *testing.T) {
	u := Begin(Feed{Short: []int{5, 5, 5, 0, 0, 4096, 4096, 7, 5}})
	holds(t, "at first", u, 0, 0, 0)
	takes(t, u, 4, 4)
	holds(t, "less than the next Short", u, 1, 0, 0)
	takes(t, u, 5, 5)
	holds(t, "just the next Short", u, 2, 0, 0)
	takes(t, u, 6, 5)
	holds(t, "more than the next Short", u, 3, 0, 0)
	takes(t, u, 9, 0)
	takes(t, u, 0, 0)
	holds(t, "Short of 0", u, 5, 0, 0)
	takes(t, u, math.MaxInt, 4096)
	takes(t, u, 4095, 4095)
	holds(t, "Short of MaxBytes", u, 7, 0, 0)
	for _, n := range []int{-1, -5, -4096, math.MinInt} {
		takes(t, u, n, 0)
		holds(t, "below 0", u, 7, 0, 0)
	}
	takes(t, u, 0, 0)
	holds(t, "Take of 0", u, 8, 0, 0)
	takes(t, u, 6, 5)
	holds(t, "the last Short", u, 9, 0, 0)
	for _, n := range []int{0, 1, 5, 4096, 4097, 1 << 40, math.MaxInt} {
		takes(t, u, n, n)
	}
	takes(t, u, -1, 0)
	takes(t, u, math.MinInt, 0)
	holds(t, "none left", u, 9, 0, 0)
}

func TestTakeOfNone(t *testing.T) {
	u := Begin(Feed{Random: []byte{1}, Clock: []uint32{2}})
	for _, n := range []int{0, 1, 4096, 4097, math.MaxInt} {
		takes(t, u, n, n)
	}
	takes(t, u, -3, 0)
	holds(t, "of no Short", u, 0, 0, 0)
}

func TestTakeOfAll(t *testing.T) {
	f := full()
	for n := range f.Short {
		f.Short[n] = 4096 - n
	}
	u := Begin(f)
	for n := range 64 {
		takes(t, u, 5000, 4096-n)
		holds(t, "one by one", u, n+1, 0, 0)
	}
	takes(t, u, 5000, 5000)
	holds(t, "all", u, 64, 0, 0)
}

func TestBytes(t *testing.T) {
	u := Begin(Feed{Random: []byte{1, 2, 3, 4, 5}})
	gives(t, u, 0, nil)
	holds(t, "Bytes(0)", u, 0, 0, 0)
	gives(t, u, 2, []byte{1, 2})
	holds(t, "Bytes(2)", u, 0, 2, 0)
	for _, n := range []int{-1, -4096, math.MinInt, 4097, 4098, 1 << 32, 1<<32 + 1, math.MaxInt} {
		gives(t, u, n, nil)
		holds(t, "out of bounds", u, 0, 2, 0)
	}
	gives(t, u, 1, []byte{3})
	gives(t, u, 4, []byte{4, 5, 0, 0})
	holds(t, "over the end", u, 0, 5, 0)
	gives(t, u, 3, []byte{0, 0, 0})
	gives(t, u, 4096, make([]byte, 4096))
	gives(t, u, 0, nil)
	holds(t, "behind the end", u, 0, 5, 0)
}

func TestBytesToTheEnd(t *testing.T) {
	u := Begin(Feed{Random: []byte{1, 2, 3}})
	gives(t, u, 3, []byte{1, 2, 3})
	holds(t, "just to the end", u, 0, 3, 0)
	gives(t, u, 1, []byte{0})
	holds(t, "one behind the end", u, 0, 3, 0)
	u = Begin(Feed{Random: []byte{1, 2, 3}})
	gives(t, u, 4096, append([]byte{1, 2, 3}, make([]byte, 4093)...))
	holds(t, "MaxBytes at once", u, 0, 3, 0)
	gives(t, Begin(Feed{}), 4, make([]byte, 4))
	gives(t, Begin(Feed{}), 4096, make([]byte, 4096))
	all := full()
	for n := range all.Random {
		all.Random[n] = byte(n>>4) ^ byte(n)
	}
	u = Begin(all)
	gives(t, u, 4096, all.Random)
	holds(t, "MaxBytes of MaxBytes", u, 0, 4096, 0)
	u = Begin(all)
	for at := 0; at < 4096; at += 16 {
		gives(t, u, 16, all.Random[at:at+16])
	}
	holds(t, "sixteen by sixteen", u, 0, 4096, 0)
}

func TestTime(t *testing.T) {
	u := Begin(Feed{Clock: []uint32{7, 0, math.MaxUint32, 3}})
	for n, want := range []uint32{7, 0, math.MaxUint32, 3} {
		tells(t, u, want)
		holds(t, "one by one", u, 0, 0, n+1)
	}
	for range 5 {
		tells(t, u, 3)
		holds(t, "the last one again", u, 0, 0, 4)
	}
	u = Begin(Feed{Short: []int{1}, Random: []byte{2}})
	for range 3 {
		tells(t, u, 0)
		holds(t, "of no Clock", u, 0, 0, 0)
	}
	u = Begin(Feed{Clock: []uint32{9}})
	tells(t, u, 9)
	tells(t, u, 9)
	holds(t, "of one Clock", u, 0, 0, 1)
	f := full()
	for n := range f.Clock {
		f.Clock[n] = uint32(n) << 26
	}
	u = Begin(f)
	for n := range 70 {
		tells(t, u, uint32(min(n, 63))<<26)
	}
	holds(t, "of all Clock", u, 0, 0, 64)
}

// model is a Use, told by lists that grow shorter.
type model struct {
	left                 Feed
	short, random, clock int
	last                 uint32
}

func (m *model) take(n int) int {
	if n < 0 {
		return 0
	}
	if len(m.left.Short) > 0 {
		n = min(n, m.left.Short[0])
		m.left.Short = m.left.Short[1:]
		m.short++
	}
	return n
}

func (m *model) bytes(n int) []byte {
	var b []byte
	for range n {
		if n > 4096 {
			break
		}
		var v byte
		if len(m.left.Random) > 0 {
			v = m.left.Random[0]
			m.left.Random = m.left.Random[1:]
			m.random++
		}
		b = append(b, v)
	}
	return b
}

func (m *model) time() uint32 {
	if len(m.left.Clock) > 0 {
		m.last = m.left.Clock[0]
		m.left.Clock = m.left.Clock[1:]
		m.clock++
	}
	return m.last
}

// does one call of a Use and of its model.
func does(t *testing.T, r *rand.Rand, u *Use, m *model) {
	t.Helper()
	switch r.Intn(3) {
	case 0:
		n := r.Intn(10) - 2
		takes(t, u, n, m.take(n))
	case 1:
		n := r.Intn(6) - 1
		if r.Intn(20) == 0 {
			n = 4095 + r.Intn(4)
		}
		gives(t, u, n, m.bytes(n))
	case 2:
		tells(t, u, m.time())
	}
	holds(t, "any calls", u, m.short, m.random, m.clock)
}

// Uses that are copied from one another, each beside a model of its own.
func TestAnyUse(t *testing.T) {
	r := rand.New(rand.NewSource(999))
	for range 500 {
		var f Feed
		for range r.Intn(12) {
			f.Short = append(f.Short, r.Intn(9))
		}
		f.Random = make([]byte, r.Intn(30))
		r.Read(f.Random)
		for range r.Intn(8) {
			f.Clock = append(f.Clock, r.Uint32())
		}
		uses := []*Use{Begin(f)}
		models := []*model{{left: f}}
		for range 60 {
			k := r.Intn(len(uses))
			if r.Intn(12) == 0 {
				twin := *models[k]
				uses = append(uses, uses[k].Copy())
				models = append(models, &twin)
			}
			does(t, r, uses[k], models[k])
		}
		for k, m := range models {
			holds(t, "at the end", uses[k], m.short, m.random, m.clock)
		}
	}
}

func TestCopy(t *testing.T) {
	u := Begin(sample())
	c := u.Copy()
	holds(t, "a Copy of what is not used", c, 0, 0, 0)
	takes(t, u, 9, 3)
	gives(t, u, 2, []byte{1, 2})
	tells(t, u, 7)
	holds(t, "a Copy, the other used", c, 0, 0, 0)
	d := u.Copy()
	holds(t, "a Copy of what is used", d, 1, 2, 1)
	takes(t, d, 9, 0)
	gives(t, d, 9, []byte{0, 4, 255, 6, 7, 0, 0, 0, 0})
	tells(t, d, 0)
	tells(t, d, math.MaxUint32)
	holds(t, "the Copy, used", d, 2, 7, 3)
	holds(t, "the other, its Copy used", u, 1, 2, 1)
	takes(t, u, 9, 0)
	gives(t, u, 3, []byte{0, 4, 255})
	tells(t, u, 0)
	takes(t, c, 9, 3)
	gives(t, c, 3, []byte{1, 2, 0})
	tells(t, c, 7)
	holds(t, "the first Copy, used", c, 1, 3, 1)
	e := d.Copy().Copy()
	for range 9 {
		e.Take(1)
		e.Time()
	}
	tells(t, e.Copy(), 0x01020304)
	takes(t, e.Copy(), 4097, 4097)
	gives(t, e.Copy(), 1, []byte{0})
	holds(t, "a Copy of a Copy, all used", e.Copy(), 5, 7, 4)
	holds(t, "what it was made of", d, 2, 7, 3)
}

// roomy has a sample's parts with spare room behind them.
func roomy() Feed {
	f := sample()
	f.Args = append(make([]string, 0, 40), f.Args...)
	f.Input = append(make([]byte, 0, 40), f.Input...)
	f.Short = append(make([]int, 0, 40), f.Short...)
	f.Random = append(make([]byte, 0, 40), f.Random...)
	f.Clock = append(make([]uint32, 0, 40), f.Clock...)
	f.Files = append(make([]File, 0, 40), f.Files...)
	for n := range f.Files {
		f.Files[n].Data = append(make([]byte, 0, 40), f.Files[n].Data...)
	}
	return f
}

// spoil turns all that a feed's lists have, spare room too.
func spoil(f Feed) {
	for n := range f.Args[:cap(f.Args)] {
		f.Args[:cap(f.Args)][n] = "spoilt"
	}
	for n := range f.Short[:cap(f.Short)] {
		f.Short[:cap(f.Short)][n] = 77
	}
	for n := range f.Clock[:cap(f.Clock)] {
		f.Clock[:cap(f.Clock)][n] = 77
	}
	spoilBytes(f.Input)
	spoilBytes(f.Random)
	for _, file := range f.Files {
		spoilBytes(file.Data)
	}
	for n := range f.Files[:cap(f.Files)] {
		f.Files[:cap(f.Files)][n].Name = "spoilt"
	}
}

func spoilBytes(b []byte) {
	for n := range b[:cap(b)] {
		b[:cap(b)][n] = 0xaa
	}
}

func TestWhatComesInIsLeft(t *testing.T) {
	for _, do := range []func(f Feed){
		func(f Feed) { Good(f) },
		func(f Feed) { Put(f) },
		func(f Feed) {
			u := Begin(f)
			spoilBytes(u.Bytes(9))
			u.Take(9)
			u.Time()
			u.Copy().Bytes(9)
		},
	} {
		f := roomy()
		do(f)
		if !equal(f, sample()) {
			t.Errorf("R4: a feed that was handed in is changed: %+v", f)
		}
		if slices.ContainsFunc(f.Args[len(f.Args):cap(f.Args)], func(s string) bool { return s != "" }) ||
			slices.ContainsFunc(f.Short[len(f.Short):cap(f.Short)], func(n int) bool { return n != 0 }) ||
			slices.ContainsFunc(f.Clock[len(f.Clock):cap(f.Clock)], func(w uint32) bool { return w != 0 }) ||
			slices.ContainsFunc(f.Input[len(f.Input):cap(f.Input)], func(v byte) bool { return v != 0 }) ||
			slices.ContainsFunc(f.Random[len(f.Random):cap(f.Random)], func(v byte) bool { return v != 0 }) {
			t.Errorf("R4: a feed's spare room is changed")
		}
	}
	f := roomy()
	u := Begin(f)
	spoil(f)
	takes(t, u, 9, 3)
	gives(t, u, 7, sample().Random)
	tells(t, u, 7)
	tells(t, u, 0)
	holds(t, "the feed spoilt", u, 1, 7, 2)
}

func TestAnswersAreNew(t *testing.T) {
	f := roomy()
	b, _ := Put(f)
	c, _ := Put(f)
	spoilBytes(b)
	if !equal(f, sample()) || !bytes.Equal(c, written(sample())) {
		t.Errorf("R4: Put's answer shares memory")
	}
	wide := append(make([]byte, 0, 2*len(c)), c...)
	g, _ := Get(wide)
	h, _ := Get(wide)
	spoil(g)
	if !equal(h, sample()) || !bytes.Equal(wide, c) || !bytes.Equal(wide[len(c):cap(wide)], make([]byte, cap(wide)-len(c))) {
		t.Errorf("R4: Get's answer shares memory")
	}
	spoilBytes(wide)
	if !equal(h, sample()) {
		t.Errorf("R4: Get's answer keeps its bytes")
	}
	lists := [][]byte{h.Input, h.Random, h.Files[0].Data, h.Files[1].Data, h.Files[2].Data, h.Files[3].Data}
	for n, l := range lists {
		l = l[:cap(l)]
		for k := range l {
			l[k] = byte(n)
		}
	}
	for n, l := range lists {
		if slices.ContainsFunc(l, func(v byte) bool { return v != byte(n) }) {
			t.Errorf("R4: lists of one answer share memory: %d", n)
		}
	}
	u := Begin(sample())
	x, y := u.Copy(), u.Copy()
	p, q := x.Bytes(3), x.Bytes(3)
	spoilBytes(p)
	if !bytes.Equal(q, []byte{4, 255, 6}) || !bytes.Equal(y.Bytes(3), []byte{1, 2, 0}) || !bytes.Equal(u.Bytes(3), []byte{1, 2, 0}) {
		t.Errorf("R4: Bytes' answers share memory")
	}
}

// A call that is refused leaves what is kept as it was.
func TestRefusedChangesNothing(t *testing.T) {
	u := Begin(sample())
	u.Take(1)
	u.Bytes(1)
	u.Time()
	for range 3 {
		u.Take(-1)
		u.Bytes(-1)
		u.Bytes(4097)
		holds(t, "after refusals", u, 1, 1, 1)
	}
	takes(t, u, 9, 0)
	gives(t, u, 2, []byte{2, 0})
	tells(t, u, 0)
}
