package files

import (
	"bytes"
	"fmt"
	"maps"
	"math"
	"math/rand"
	"slices"
	"strings"
	"testing"

	"tincture/feed"
)

// fds are numbers to ask for: those that can be open, and others.
var fds = []int{math.MinInt, math.MinInt32, -256, -100, -17, -16, -3, -2, -1, 0, 1, 2, 3, 4, 5, 6, 7, 8, 9, 10, 11, 12, 13, 14, 15,
	16, 17, 18, 19, 31, 32, 255, 256, 257, 1 << 16, 1<<16 + 1, math.MaxInt32, 1 << 32, 1<<32 + 1, math.MaxInt}

func sample() feed.Feed {
	return feed.Feed{
		Args:   []string{"prog"},
		Input:  []byte("the input"),
		Short:  []int{7, 0, 4096, 2},
		Random: []byte{1, 2, 3},
		Clock:  []uint32{100, 200},
		Files:  []feed.File{{Name: "f", Data: []byte("some data")}, {Name: "g"}, {Name: "F", Data: []byte{0, 255, 0}}, {Name: "ff", Data: []byte("x")}},
	}
}

// plain is a sample whose reads are not cut short.
func plain() feed.Feed {
	f := sample()
	f.Short = nil
	return f
}

func reads(t *testing.T, f *Files, fd, n int, want string) {
	t.Helper()
	if b, k := f.Read(fd, n); string(b) != want || k != len(want) {
		t.Errorf("P11.1: Read(%d, %d): %q, %d, want %q, %d", fd, n, b, k, want, len(want))
	}
}

func readsNot(t *testing.T, f *Files, fd, n int) {
	t.Helper()
	if b, k := f.Read(fd, n); len(b) != 0 || k != -9 {
		t.Errorf("P11.1: Read(%d, %d): %q, %d, want -9", fd, n, b, k)
	}
}

func writes(t *testing.T, f *Files, fd int, b string, want int) {
	t.Helper()
	if k := f.Write(fd, []byte(b)); k != want {
		t.Errorf("P11.1: Write(%d, %d bytes): %d, want %d", fd, len(b), k, want)
	}
}

func seeks(t *testing.T, f *Files, fd int, off int32, whence, want int) {
	t.Helper()
	if k := f.Seek(fd, off, whence); k != want {
		t.Errorf("P11.1: Seek(%d, %d, %d): %d, want %d", fd, off, whence, k, want)
	}
}

func opens(t *testing.T, f *Files, name string, want int) {
	t.Helper()
	if k := f.Open(name); k != want {
		t.Errorf("P11.1: Open(%.50q): %d, want %d", name, k, want)
	}
}

func closes(t *testing.T, f *Files, fd, want int) {
	t.Helper()
	if k := f.Close(fd); k != want {
		t.Errorf("P11.1: Close(%d): %d, want %d", fd, k, want)
	}
}

func wrote(t *testing.T, f *Files, fd int, want string) {
	t.Helper()
	if b := f.Out(fd); string(b) != want {
		t.Errorf("P11.1: Out(%d): %d bytes, %.50q, want %d bytes, %.50q", fd, len(b), b, len(want), want)
	}
}

func used(t *testing.T, f *Files, short, random, clock int) {
	t.Helper()
	if s, r, c := f.Use().Used(); s != short || r != random || c != clock {
		t.Errorf("P11.1: Use().Used(): %d, %d, %d, want %d, %d, %d", s, r, c, short, random, clock)
	}
}

// filled has all its numbers open: 3 to 15 read the File f.
func filled(t *testing.T, given feed.Feed) *Files {
	t.Helper()
	f := New(given)
	for fd := 3; fd < 16; fd++ {
		opens(t, f, "f", fd)
	}
	return f
}

// told tells all that a later call could tell; what is told is told of Copies,
// so that the telling changes nothing.
func told(f *Files) string {
	var text strings.Builder
	for fd := -1; fd <= 16; fd++ {
		c := f.Copy()
		b, n := c.Read(fd, 4096)
		fmt.Fprintf(&text, "%d: stands at %d, of %d, reads %q, %d, writes %d, %q, closes %d\n",
			fd, f.Copy().Seek(fd, 0, 1), f.Copy().Seek(fd, 0, 2), b, n, f.Copy().Write(fd, nil), f.Out(fd), f.Copy().Close(fd))
	}
	c := f.Copy()
	s, r, k := c.Use().Used()
	fmt.Fprintf(&text, "used %d, %d, %d\n", s, r, k)
	for range 70 {
		fmt.Fprint(&text, c.Use().Take(5000), c.Use().Time(), " ")
	}
	fmt.Fprintf(&text, "\n%v", c.Use().Bytes(4096))
	for _, name := range []string{"", "f", "g", "F", "ff", "input"} {
		tellOpens(&text, f.Copy(), name)
	}
	return text.String()
}

// tellOpens opens a File again and again, and tells what is read there. How
// often is bounded, so that faulty files are told, too.
func tellOpens(text *strings.Builder, f *Files, name string) {
	for range 17 {
		fd := f.Open(name)
		fmt.Fprintf(text, "\n%q opens %d", name, fd)
		if fd < 0 {
			return
		}
		for range 8 {
			b, n := f.Read(fd, 4096)
			fmt.Fprintf(text, " %q, %d", b, n)
		}
	}
}

func TestExample(t *testing.T) {
	f := New(feed.Feed{})
	writes(t, f, 1, "ab", 2)
	wrote(t, f, 1, "ab")
}

func TestAtFirst(t *testing.T) {
	f := New(plain())
	for _, fd := range []int{1, 2} {
		writes(t, f, fd, "", 0)
		wrote(t, f, fd, "")
		readsNot(t, f, fd, 1)
	}
	reads(t, f, 0, 99, "the input")
	writes(t, f, 0, "x", -9)
	for _, fd := range fds {
		if fd < 0 || fd > 2 {
			readsNot(t, f, fd, 1)
			writes(t, f, fd, "", -9)
			seeks(t, f, fd, 0, 0, -9)
			closes(t, f, fd, -9)
			wrote(t, f, fd, "")
		}
	}
	used(t, f, 0, 0, 0)
	opens(t, f, "f", 3)
}

func TestOpenNames(t *testing.T) {
	f := New(plain())
	for _, name := range []string{"", "x", "fff", "f\x00", "\x00f", "f ", " f", "G", "gg", "fg", "input", "0", "the input", "some data", strings.Repeat("f", 40), strings.Repeat("f", 1<<16)} {
		opens(t, f, name, -2)
	}
	for n, c := range []struct{ name, data string }{{"F", "\x00\xff\x00"}, {"f", "some data"}, {"ff", "x"}, {"g", ""}, {"f", "some data"}} {
		opens(t, f, c.name, 3+n)
		reads(t, f, 3+n, 99, c.data)
	}
}

func TestOpenLongNames(t *testing.T) {
	g := feed.Feed{Files: []feed.File{{Name: strings.Repeat("a", 40), Data: []byte("1")}, {Name: "\xff\xfe", Data: []byte("2")}, {Name: "a", Data: []byte("3")}}}
	for n := range 5 {
		g.Files = append(g.Files, feed.File{Name: fmt.Sprint("n", n), Data: []byte{byte('a' + n)}})
	}
	f := New(g)
	opens(t, f, strings.Repeat("a", 41), -2)
	opens(t, f, strings.Repeat("a", 39), -2)
	opens(t, f, "\xff", -2)
	opens(t, f, "\ufffd\ufffd", -2)
	for n, file := range g.Files {
		opens(t, f, file.Name, 3+n)
		reads(t, f, 3+n, 99, string(file.Data))
	}
}

func TestOpenTakesTheLeast(t *testing.T) {
	f := filled(t, plain())
	opens(t, f, "f", -24)
	opens(t, f, "x", -2)
	opens(t, f, "", -2)
	for _, fd := range []int{15, 7, 3, 0, 1, 2} {
		closes(t, f, fd, 0)
		opens(t, f, "x", -2)
		opens(t, f, "ff", fd)
		opens(t, f, "ff", -24)
		reads(t, f, fd, 9, "x")
	}
	for _, fd := range []int{9, 2, 14, 5} {
		closes(t, f, fd, 0)
	}
	for _, fd := range []int{2, 5, 9, 14, -24, -24} {
		opens(t, f, "g", fd)
	}
	for fd := range 16 {
		closes(t, f, fd, 0)
	}
	for fd := range 16 {
		opens(t, f, "f", fd)
	}
	opens(t, f, "f", -24)
}

// TestOpenBegins holds that each Open stands at the beginning, by itself.
func TestOpenBegins(t *testing.T) {
	f := New(plain())
	opens(t, f, "f", 3)
	reads(t, f, 3, 5, "some ")
	opens(t, f, "f", 4)
	reads(t, f, 4, 4, "some")
	reads(t, f, 3, 99, "data")
	seeks(t, f, 4, 0, 1, 4)
	closes(t, f, 3, 0)
	opens(t, f, "f", 3)
	seeks(t, f, 3, 0, 1, 0)
	reads(t, f, 3, 99, "some data")
	seeks(t, f, 4, 100, 0, 100)
	closes(t, f, 4, 0)
	opens(t, f, "ff", 4)
	reads(t, f, 4, 99, "x")
	reads(t, f, 0, 3, "the")
	closes(t, f, 0, 0)
	opens(t, f, "F", 0)
	reads(t, f, 0, 99, "\x00\xff\x00")
}

func TestClose(t *testing.T) {
	f := filled(t, plain())
	for _, fd := range fds {
		if fd < 0 || fd > 15 {
			closes(t, f, fd, -9)
			continue
		}
		closes(t, f, fd, 0)
		closes(t, f, fd, -9)
		readsNot(t, f, fd, 1)
		writes(t, f, fd, "", -9)
		seeks(t, f, fd, 0, 0, -9)
		seeks(t, f, fd, 0, 9, -9)
	}
}

// TestCloseOfStandard holds what 0, 1 and 2 are when they are opened again.
func TestCloseOfStandard(t *testing.T) {
	f := New(plain())
	writes(t, f, 1, "one", 3)
	writes(t, f, 2, "two", 3)
	for fd := range 3 {
		closes(t, f, fd, 0)
	}
	for fd := range 3 {
		opens(t, f, "f", fd)
		writes(t, f, fd, "x", -9)
		writes(t, f, fd, "", -9)
		writes(t, f, fd, strings.Repeat("x", 65537), -9)
		seeks(t, f, fd, 5, 0, 5)
		reads(t, f, fd, 99, "data")
	}
	wrote(t, f, 0, "")
	wrote(t, f, 1, "one")
	wrote(t, f, 2, "two")
	closes(t, f, 1, 0)
	writes(t, f, 1, "x", -9)
	wrote(t, f, 1, "one")
}

func TestRead(t *testing.T) {
	f := New(plain())
	opens(t, f, "f", 3)
	opens(t, f, "g", 4)
	for _, n := range []int{0, -1, -9, -4096, math.MinInt32, math.MinInt} {
		reads(t, f, 0, n, "")
		reads(t, f, 3, n, "")
	}
	reads(t, f, 0, 3, "the")
	reads(t, f, 3, 1, "s")
	reads(t, f, 0, 1, " ")
	reads(t, f, 3, 7, "ome dat")
	reads(t, f, 0, 5, "input")
	reads(t, f, 3, 2, "a")
	for _, n := range []int{-1, 0, 1, 4096, 4097, 1 << 32, 1<<32 + 1, math.MaxInt} {
		reads(t, f, 0, n, "")
		reads(t, f, 3, n, "")
		reads(t, f, 4, n, "")
	}
	used(t, f, 0, 0, 0)
}

func TestReadMuch(t *testing.T) {
	much := make([]byte, 4096)
	for n := range much {
		much[n] = byte(n * 7 >> 3)
	}
	given := feed.Feed{Input: much, Files: []feed.File{{Name: "f", Data: slices.Repeat([]byte{9}, 4096)}}}
	for _, n := range []int{4096, 4097, 1 << 31, 1 << 32, math.MaxInt} {
		f := New(given)
		opens(t, f, "f", 3)
		reads(t, f, 0, n, string(much))
		reads(t, f, 0, n, "")
		reads(t, f, 3, n, string(given.Files[0].Data))
	}
	f := New(given)
	reads(t, f, 0, 4095, string(much[:4095]))
	reads(t, f, 0, 4095, string(much[4095:]))
}

// TestReadShort holds that each read takes a Short, of whatever number and
// whatever is left.
func TestReadShort(t *testing.T) {
	given := sample()
	given.Short = []int{3, 2, 9, 4096, 0, 0, 1, 4096, 5, 2}
	f := New(given)
	opens(t, f, "f", 3)
	opens(t, f, "g", 4)
	used(t, f, 0, 0, 0)
	for n, c := range []struct {
		fd, n int
		want  string
	}{
		{0, 99, "the"},         // more than the Short
		{3, 1, "s"},            // less than the Short, which is used all the same
		{0, 9, " input"},       // less is left than the Short
		{0, 99, ""},            // nothing is left
		{3, 99, ""},            // a Short of 0
		{3, 0, ""},             // nothing is asked for
		{3, -1, ""},            // that is 0
		{4, 99, ""},            // nothing is there
		{3, 5, "ome d"},        // just the Short
		{3, math.MaxInt, "at"}, // the last one
	} {
		reads(t, f, c.fd, c.n, c.want)
		used(t, f, n+1, 0, 0)
	}
	reads(t, f, 3, 99, "a")
	used(t, f, 10, 0, 0)
}

// TestReadRefused holds that a read that is refused takes no Short.
func TestReadRefused(t *testing.T) {
	f := New(sample())
	closes(t, f, 0, 0)
	for _, fd := range fds {
		for _, n := range []int{math.MinInt, -1, 0, 1, 4096, math.MaxInt} {
			readsNot(t, f, fd, n)
		}
	}
	used(t, f, 0, 0, 0)
	opens(t, f, "f", 0)
	reads(t, f, 0, 99, "some da")
	used(t, f, 1, 0, 0)
}

func TestWrite(t *testing.T) {
	f := filled(t, plain())
	writes(t, f, 1, "ab", 2)
	writes(t, f, 2, "\x00\xff", 2)
	writes(t, f, 1, "", 0)
	writes(t, f, 1, "c", 1)
	writes(t, f, 2, "d\x00", 2)
	for _, fd := range fds {
		if fd != 1 && fd != 2 {
			writes(t, f, fd, "x", -9)
			writes(t, f, fd, "", -9)
			writes(t, f, fd, strings.Repeat("x", 65537), -9)
			wrote(t, f, fd, "")
		}
	}
	wrote(t, f, 1, "abc")
	wrote(t, f, 2, "\x00\xffd\x00")
	reads(t, f, 0, 99, "the input")
	reads(t, f, 3, 99, "some data")
	used(t, f, 0, 0, 0)
}

func TestWriteMuch(t *testing.T) {
	much := strings.Repeat("0123456789abcdef", 4096)
	for _, fd := range []int{1, 2} {
		f := New(sample())
		for _, n := range []int{65537, 65538, 1 << 17, 1 << 20} {
			writes(t, f, fd, strings.Repeat("x", n), -28)
			wrote(t, f, fd, "")
		}
		writes(t, f, fd, much, 65536)
		writes(t, f, fd, "x", -28)
		writes(t, f, fd, much, -28)
		writes(t, f, fd, "", 0)
		wrote(t, f, fd, much)
		writes(t, f, 3-fd, much[:65535], 65535)
		writes(t, f, 3-fd, "xy", -28)
		writes(t, f, 3-fd, "f", 1)
		writes(t, f, 3-fd, "f", -28)
		wrote(t, f, 3-fd, much)
		closes(t, f, fd, 0)
		writes(t, f, fd, much, -9)
		wrote(t, f, fd, much)
	}
	f := New(sample())
	for n := range 16 {
		writes(t, f, 1, much[:4096], 4096)
		writes(t, f, 1, strings.Repeat("x", 65536-4096*n), -28)
	}
	wrote(t, f, 1, much)
}

func TestSeek(t *testing.T) {
	f := New(plain())
	opens(t, f, "f", 3)
	opens(t, f, "g", 4)
	for _, c := range []struct {
		fd     int
		off    int32
		whence int
		want   int
		reads  string
	}{
		{3, 0, 0, 0, "so"},
		{3, 0, 1, 2, "me"},
		{3, 1, 1, 5, "da"},
		{3, -7, 1, 0, "so"},
		{3, 0, 2, 9, ""},
		{3, -1, 2, 8, "a"},
		{3, 0, 1, 9, ""},
		{3, -9, 2, 0, "so"},
		{3, 9, 0, 9, ""},
		{3, 8, 0, 8, "a"},
		{3, 10, 0, 10, ""},
		{3, 0, 1, 10, ""},
		{3, -2, 1, 8, "a"},
		{3, 1, 2, 10, ""},
		{3, math.MaxInt32, 0, math.MaxInt32, ""},
		{3, math.MinInt32, 1, -22, ""},
		{3, -math.MaxInt32, 1, 0, "so"},
		{3, math.MaxInt32, 2, math.MaxInt32 + 9, ""},
		{3, math.MaxInt32, 1, 2*math.MaxInt32 + 9, ""},
		{3, math.MaxInt32, 1, 3*math.MaxInt32 + 9, ""},
		{3, math.MinInt32, 1, 2*math.MaxInt32 + 8, ""},
		{3, math.MinInt32, 1, math.MaxInt32 + 7, ""},
		{3, math.MinInt32, 1, 6, "at"},
		{4, 0, 2, 0, ""},
		{4, -1, 2, -22, ""},
		{4, 1, 2, 1, ""},
		{4, 0, 1, 1, ""},
		{4, -1, 1, 0, ""},
		{0, 4, 0, 4, "in"},
		{0, -2, 2, 7, "ut"},
		{0, -8, 1, 1, "he"},
		{3, 0, 1, 8, "a"},
	} {
		seeks(t, f, c.fd, c.off, c.whence, c.want)
		reads(t, f, c.fd, 2, c.reads)
	}
	used(t, f, 0, 0, 0)
}

// TestSeekNowhere holds that a Seek that is refused leaves the place.
func TestSeekNowhere(t *testing.T) {
	f := New(plain())
	opens(t, f, "f", 3)
	for _, fd := range []int{0, 3} {
		for _, at := range []int{0, 4, 9, 20} {
			seeks(t, f, fd, int32(at), 0, at)
			for _, off := range []int32{-1, -5, math.MinInt32} {
				seeks(t, f, fd, off, 0, -22)
				seeks(t, f, fd, int32(max(int64(off)-int64(at), math.MinInt32)), 1, -22)
				seeks(t, f, fd, int32(max(int64(off)-9, math.MinInt32)), 2, -22)
			}
			for _, whence := range []int{math.MinInt, -256, -2, -1, 3, 4, 5, 255, 256, 257, 1 << 32, 1<<32 + 1, 1<<32 + 2, math.MaxInt} {
				for _, off := range []int32{math.MinInt32, -1, 0, 1, math.MaxInt32} {
					seeks(t, f, fd, off, whence, -22)
				}
			}
			seeks(t, f, fd, 0, 1, at)
		}
	}
}

// TestSeekWhichError holds which of several errors is answered.
func TestSeekWhichError(t *testing.T) {
	f := New(plain())
	for _, whence := range []int{-1, 0, 1, 2, 3, 99} {
		for _, off := range []int32{math.MinInt32, -1, 0, 1, math.MaxInt32} {
			for _, fd := range fds {
				if fd < 0 || fd > 2 {
					seeks(t, f, fd, off, whence, -9)
				}
			}
			seeks(t, f, 1, off, whence, -29)
			seeks(t, f, 2, off, whence, -29)
		}
	}
	closes(t, f, 2, 0)
	seeks(t, f, 2, 0, 9, -9)
	opens(t, f, "f", 2)
	seeks(t, f, 2, 0, 9, -22)
	seeks(t, f, 2, 3, 0, 3)
}

// TestSeekFar holds that places are exact, also far behind the end.
func TestSeekFar(t *testing.T) {
	f := New(plain())
	opens(t, f, "f", 3)
	for n := 1; n <= 10000; n++ {
		seeks(t, f, 3, math.MaxInt32, 1, n*math.MaxInt32)
	}
	reads(t, f, 3, 9, "")
	for n := 9999; n >= 0; n-- {
		seeks(t, f, 3, -math.MaxInt32, 1, n*math.MaxInt32)
	}
	reads(t, f, 3, 9, "some data")
}

func TestUse(t *testing.T) {
	f := New(sample())
	reads(t, f, 0, 3, "the")
	if n := f.Use().Take(9); n != 0 {
		t.Errorf("P11.1: Use().Take(9): %d, want 0", n)
	}
	if v := f.Use().Time(); v != 100 {
		t.Errorf("P11.1: Use().Time(): %d, want 100", v)
	}
	if v := f.Use().Time(); v != 200 {
		t.Errorf("P11.1: Use().Time(): %d, want 200", v)
	}
	if b := f.Use().Bytes(2); !bytes.Equal(b, []byte{1, 2}) {
		t.Errorf("P11.1: Use().Bytes(2): %v", b)
	}
	used(t, f, 2, 2, 2)
	reads(t, f, 0, 99, " input")
	reads(t, f, 0, 99, "")
	used(t, f, 4, 2, 2)
}

func TestOfNoFeed(t *testing.T) {
	bad := []func(f *feed.Feed){
		func(f *feed.Feed) { f.Input = make([]byte, 4097) },
		func(f *feed.Feed) { f.Args = []string{"a\x00"} },
		func(f *feed.Feed) { f.Short[1] = -1 },
		func(f *feed.Feed) { f.Random = make([]byte, 4097) },
		func(f *feed.Feed) { f.Clock = make([]uint32, 65) },
		func(f *feed.Feed) { f.Files[1].Name = "f" },
		func(f *feed.Feed) { f.Files[1].Name = "" },
		func(f *feed.Feed) { f.Files[1].Data = make([]byte, 4097) },
	}
	for n, spoil := range bad {
		given := sample()
		spoil(&given)
		f := New(given)
		opens(t, f, "f", -2)
		opens(t, f, "", -2)
		reads(t, f, 0, 99, "")
		seeks(t, f, 0, 0, 2, 0)
		writes(t, f, 1, "x", 1)
		used(t, f, 0, 0, 0)
		if told(New(given)) != told(New(feed.Feed{})) {
			t.Errorf("P9.1: New of a feed that may not be, %d, is not as of an empty one", n)
		}
	}
}

// changes are calls that change what is open, each in a way of its own.
func changes() map[string]func(f *Files) {
	return map[string]func(f *Files){
		"Open":  func(f *Files) { f.Open("g") },
		"Close": func(f *Files) { f.Close(3) },
		"Read":  func(f *Files) { f.Read(3, 2) },
		"Short": func(f *Files) { f.Read(4, 2) },
		"Write": func(f *Files) { f.Write(1, []byte("more")) },
		"error": func(f *Files) { f.Write(2, []byte("more")) },
		"Seek":  func(f *Files) { f.Seek(3, 1, 0) },
		"Input": func(f *Files) { f.Seek(0, 1, 0) },
		"Time":  func(f *Files) { f.Use().Time() },
		"Bytes": func(f *Files) { f.Use().Bytes(1) },
	}
}

func worn(t *testing.T) *Files {
	f := New(sample())
	opens(t, f, "f", 3)
	opens(t, f, "g", 4)
	reads(t, f, 3, 5, "some ")
	writes(t, f, 1, "abc", 3)
	writes(t, f, 2, "d", 1)
	f.Use().Time()
	f.Use().Bytes(1)
	return f
}

func TestCopy(t *testing.T) {
	for what, change := range changes() {
		f := worn(t)
		c := f.Copy()
		before := told(f)
		if told(c) != before {
			t.Errorf("P11.1: Copy: it is another one")
		}
		change(c)
		if told(f) != before {
			t.Errorf("P11.1: Copy: a change (%s) of it changes what it was made of", what)
		}
		if told(c) == before {
			t.Errorf("the test's own change, %s, is none", what)
		}
		c = f.Copy()
		change(f)
		if told(c) != before {
			t.Errorf("P11.1: Copy: a change (%s) of what it was made of changes it", what)
		}
	}
	f := worn(t)
	c, d := f.Copy(), f.Copy().Copy()
	writes(t, c, 1, "x", 1)
	writes(t, d, 1, "y", 1)
	writes(t, f, 1, "z", 1)
	wrote(t, c, 1, "abcx")
	wrote(t, d, 1, "abcy")
	wrote(t, f, 1, "abcz")
	if f.Use() == c.Use() {
		t.Errorf("P11.1: Copy: its Use is that of what it was made of")
	}
}

// spoil turns each byte of a list, spare room too.
func spoil(b []byte) {
	for n := range b[:cap(b)] {
		b[:cap(b)][n] = 0xaa
	}
}

func TestFeedIsLeft(t *testing.T) {
	given := sample()
	given.Input = append(make([]byte, 0, 40), given.Input...)
	given.Files = append(make([]feed.File, 0, 9), given.Files...)
	given.Files[0].Data = append(make([]byte, 0, 40), given.Files[0].Data...)
	f := New(given)
	want := told(f)
	f.Write(1, []byte("x"))
	b, _ := f.Read(0, 99)
	spoil(b)
	opens(t, f, "f", 3)
	f.Seek(3, 0, 0)
	b, _ = f.Copy().Read(3, 99)
	spoil(b)
	if told(New(given)) != want {
		t.Errorf("R4: a feed that was handed in is changed")
	}
	if !bytes.Equal(given.Input[:40], append([]byte("the input"), make([]byte, 31)...)) || given.Files[:9][4].Name != "" ||
		!bytes.Equal(given.Files[0].Data[:40], append([]byte("some data"), make([]byte, 31)...)) {
		t.Errorf("R4: a feed's spare room is changed")
	}
	f = New(given)
	spoil(given.Input)
	for n := range given.Files {
		spoil(given.Files[n].Data)
		given.Files[n].Name = "spoilt"
	}
	given.Short[0] = 1
	if told(f) != want {
		t.Errorf("R4: a feed that was handed in is kept")
	}
}

func TestWrittenBytesAreLeft(t *testing.T) {
	room := []byte("written and left")
	f := New(sample())
	for range 5 {
		f.Write(1, room[:7])
	}
	if string(room) != "written and left" {
		t.Errorf("R4: Write changed its bytes, or their spare room: %q", room)
	}
	spoil(room)
	wrote(t, f, 1, strings.Repeat("written", 5))
}

func TestAnswersAreNew(t *testing.T) {
	f := New(plain())
	opens(t, f, "f", 3)
	for _, c := range []struct {
		fd   int
		data string
	}{{0, "the input"}, {3, "some data"}} {
		for range 3 {
			seeks(t, f, c.fd, 0, 0, 0)
			a, _ := f.Read(c.fd, 4)
			b, _ := f.Read(c.fd, 9)
			spoil(a)
			if string(b) != c.data[4:] {
				t.Errorf("R4: Read's answers share memory: %q", b)
			}
			spoil(b)
		}
	}
	writes(t, f, 1, "abc", 3)
	for range 3 {
		a, b := f.Out(1), f.Out(1)
		spoil(a)
		if string(b) != "abc" {
			t.Errorf("R4: Out's answers share memory: %q", b)
		}
	}
	a := f.Out(1)
	spoil(append(a, 'x', 'y'))
	writes(t, f, 1, "def", 3)
	spoil(a)
	wrote(t, f, 1, "abcdef")
	if b := New(plain()); told(b) != told(New(plain())) {
		t.Errorf("R5: two of one feed are not alike")
	}
}

// TestRefusedChangesNothing holds that what is refused leaves all as it was.
func TestRefusedChangesNothing(t *testing.T) {
	f := worn(t)
	for fd := 5; fd < 16; fd++ {
		opens(t, f, "f", fd)
	}
	writes(t, f, 2, strings.Repeat("e", 65535), 65535)
	before := told(f)
	for n, refused := range []int{
		f.Open("x"), f.Open(""), f.Open("f"),
		f.Close(-1), f.Close(16),
		f.Write(0, []byte("x")), f.Write(3, []byte("x")), f.Write(16, nil), f.Write(1, make([]byte, 65536)), f.Write(2, []byte("x")),
		f.Seek(1, 0, 0), f.Seek(16, 0, 0), f.Seek(3, -1, 0), f.Seek(3, -6, 1), f.Seek(3, 0, 3), f.Seek(3, 0, -1),
	} {
		if refused >= 0 {
			t.Errorf("P11.1: number %d is not refused", n)
		}
	}
	readsNot(t, f, 1, 9)
	readsNot(t, f, 16, 9)
	if told(f) != before {
		t.Errorf("R3: a call that was refused changed what is open")
	}
}

// model is what is open, by readers and buffers of the library.
type model struct {
	given feed.Feed
	short []int
	used  int
	in    map[int]bytes.Reader
	out   map[int]bool
	text  [3]string
}

func newModel(given feed.Feed) *model {
	return &model{
		given: given,
		short: given.Short,
		in:    map[int]bytes.Reader{0: *bytes.NewReader(given.Input)},
		out:   map[int]bool{1: true, 2: true},
	}
}

func (m *model) copy() *model {
	other := *m
	other.in, other.out = maps.Clone(m.in), maps.Clone(m.out)
	return &other
}

func (m *model) isOpen(fd int) bool {
	_, read := m.in[fd]
	return read || m.out[fd]
}

func (m *model) open(name string) int {
	for _, file := range m.given.Files {
		if file.Name != name {
			continue
		}
		for fd := 0; fd < 16; fd++ {
			if !m.isOpen(fd) {
				m.in[fd] = *bytes.NewReader(file.Data)
				return fd
			}
		}
		return -24
	}
	return -2
}

func (m *model) close(fd int) int {
	if !m.isOpen(fd) {
		return -9
	}
	delete(m.in, fd)
	delete(m.out, fd)
	return 0
}

func (m *model) read(fd, n int) (string, int) {
	r, ok := m.in[fd]
	if !ok {
		return "", -9
	}
	n = max(0, min(4096, n))
	if len(m.short) > 0 {
		n = min(n, m.short[0])
		m.short = m.short[1:]
		m.used++
	}
	b := make([]byte, n)
	k, _ := r.Read(b)
	m.in[fd] = r
	return string(b[:k]), k
}

func (m *model) write(fd int, b string) int {
	if !m.out[fd] {
		return -9
	}
	if text := m.text[fd] + b; len(text) <= 65536 {
		m.text[fd] = text
		return len(b)
	}
	return -28
}

func (m *model) seek(fd int, off int32, whence int) int {
	if !m.isOpen(fd) {
		return -9
	}
	r, ok := m.in[fd]
	if !ok {
		return -29
	}
	at, e := r.Seek(int64(off), whence)
	if e != nil {
		return -22
	}
	m.in[fd] = r
	return int(at)
}

// like holds that what is open is as the model has it.
func (m *model) like(t *testing.T, f *Files) {
	t.Helper()
	used(t, f, m.used, 0, 0)
	for fd := range 3 {
		wrote(t, f, fd, m.text[fd])
	}
	f, m = f.Copy(), m.copy()
	for fd := -1; fd <= 16; fd++ {
		seeks(t, f, fd, 0, 1, m.seek(fd, 0, 1))
		seeks(t, f, fd, 0, 2, m.seek(fd, 0, 2))
		seeks(t, f, fd, 0, 0, m.seek(fd, 0, 0))
		writes(t, f, fd, "", m.write(fd, ""))
		want, n := m.read(fd, 4096)
		if b, k := f.Read(fd, 4096); string(b) != want || k != n {
			t.Errorf("P11.1: Read(%d, 4096): %q, %d, want %q, %d", fd, b, k, want, n)
		}
	}
}

func someFeed(r *rand.Rand) feed.Feed {
	data := func() []byte {
		b := make([]byte, r.Intn(1+r.Intn(40)))
		r.Read(b)
		return b
	}
	f := feed.Feed{Input: data()}
	for range r.Intn(65) {
		f.Short = append(f.Short, r.Intn(12))
	}
	for n := range r.Intn(9) {
		f.Files = append(f.Files, feed.File{Name: string(rune('a' + n)), Data: data()})
	}
	return f
}

// doSome does a call of some kind, with some arguments, of both.
func doSome(t *testing.T, r *rand.Rand, f *Files, m *model) {
	t.Helper()
	fd := r.Intn(18) - 1
	if r.Intn(3) == 0 {
		fd = r.Intn(4)
	}
	switch r.Intn(12) {
	case 0, 1, 2:
		name := string(rune('a' + r.Intn(9)))
		opens(t, f, name, m.open(name))
	case 3, 4:
		closes(t, f, fd, m.close(fd))
	case 5, 6, 7, 8:
		n := r.Intn(20) - 2
		want, k := m.read(fd, n)
		if k < 0 {
			readsNot(t, f, fd, n)
			return
		}
		reads(t, f, fd, n, want)
	case 9:
		fd = r.Intn(4)
		b := strings.Repeat("wrote", r.Intn(3))
		if r.Intn(20) == 0 {
			b = strings.Repeat(b, 4000)
		}
		writes(t, f, fd, b, m.write(fd, b))
	default:
		off := int32(r.Intn(60) - 30)
		if r.Intn(10) == 0 {
			off = int32(r.Uint32())
		}
		whence := r.Intn(5) - 1
		seeks(t, f, fd, off, whence, m.seek(fd, off, whence))
	}
}

func TestAnyCalls(t *testing.T) {
	r := rand.New(rand.NewSource(11))
	for range 300 {
		given := someFeed(r)
		f, m := New(given), newModel(given)
		for n := range 200 {
			doSome(t, r, f, m)
			if r.Intn(20) == 0 {
				g, other := f.Copy(), m.copy()
				doSome(t, r, g, other)
				if r.Intn(2) == 0 {
					f, m = g, other
				}
			}
			if n%40 == 39 {
				m.like(t, f)
			}
		}
		if t.Failed() {
			t.Fatalf("the feed was %+v", given)
		}
	}
}
