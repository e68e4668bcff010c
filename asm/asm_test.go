package asm

import (
	"bytes"
	"encoding/binary"
	"fmt"
	"math"
	"math/rand"
	"regexp"
	"strconv"
	"strings"
	"testing"

	"tincture/api"
	"tincture/rv"
)

// row is the chapter's paragraph 'Texts', an instruction each: its name, its
// tokens behind the name, and the bounds of its number as chapter 5 has them.
type row struct {
	name              string
	tokens            []string // D, S, T: registers; N: Imm; U: Imm's highest 20 bits
	least, most, step int64
}

// rows is the table, from Op 1 on, written from the chapters and from nothing
// that the package has.
func rows() []row {
	var all []row
	add := func(names, tokens string, least, most, step int64) {
		for _, name := range strings.Fields(names) {
			all = append(all, row{name, strings.Fields(tokens), least, most, step})
		}
	}
	add("lui auipc", "D , U", 0, 1048575, 1)
	add("jal", "D , N", -1048576, 1048574, 2)
	add("jalr", "D , N ( S )", -2048, 2047, 1)
	add("beq bne blt bge bltu bgeu", "S , T , N", -4096, 4094, 2)
	add("lb lh lw lbu lhu", "D , N ( S )", -2048, 2047, 1)
	add("sb sh sw", "T , N ( S )", -2048, 2047, 1)
	add("addi slti sltiu xori ori andi", "D , S , N", -2048, 2047, 1)
	add("slli srli srai", "D , S , N", 0, 31, 1)
	add("add sub sll slt sltu xor srl sra or and", "D , S , T", 0, 0, 1)
	add("mul mulh mulhsu mulhu div divu rem remu", "D , S , T", 0, 0, 1)
	add("fence fence.i ecall ebreak", "", 0, 0, 1)
	return all
}

func (r row) has(token string) bool {
	for _, t := range r.tokens {
		if t == token {
			return true
		}
	}
	return false
}

func (r row) hasNumber() bool { return r.has("N") || r.has("U") }

// ins tells the row's instruction with these registers and this number.
func (r row) ins(op, d, s, t int, n int64) rv.Ins {
	i := rv.Ins{Op: op}
	if r.has("D") {
		i.Rd = d
	}
	if r.has("S") {
		i.Rs1 = s
	}
	if r.has("T") {
		i.Rs2 = t
	}
	if r.has("U") {
		i.Imm = int32(uint32(n) * 4096)
	} else if r.has("N") {
		i.Imm = int32(n)
	}
	return i
}

// written tells the tokens of a text, the name first, what is told filled in.
func (r row) written(d, s, t, n string) []string {
	fill := map[string]string{"D": d, "S": s, "T": t, "N": n, "U": n}
	all := []string{r.name}
	for _, token := range r.tokens {
		if w, is := fill[token]; is {
			token = w
		}
		all = append(all, token)
	}
	return all
}

// tidy lays tokens out as Text does.
func tidy(tokens []string) string {
	text := tokens[0]
	for k, token := range tokens[1:] {
		if k == 0 || tokens[k] == "," {
			text += " "
		}
		text += token
	}
	return text
}

func x(n int) string     { return fmt.Sprintf("x%d", n) }
func dec(n int64) string { return fmt.Sprintf("%d", n) }
func (r row) mid() int64 { return (r.least + r.most) / 2 / r.step * r.step }
func wordBytes(w uint32) []byte {
	return binary.LittleEndian.AppendUint32(nil, w)
}

func wantParse(t *testing.T, s string, want rv.Ins, e api.Errno) {
	t.Helper()
	if i, got := Parse(s); i != want || got != e {
		t.Errorf("P6.1: Parse(%q): %+v, %d, want %+v, %d", s, i, got, want, e)
	}
}

func wantText(t *testing.T, i rv.Ins, want string) {
	t.Helper()
	if got := Text(i); got != want {
		t.Errorf("P6.1: Text(%+v): %q, want %q", i, got, want)
	}
}

func wantAll(t *testing.T, text string, want []byte, line int, e api.Errno) {
	t.Helper()
	b, n, got := All(text)
	if !bytes.Equal(b, want) || n != line || got != e {
		t.Errorf("P6.1: All(%.60q): %x, line %d, %d, want %x, line %d, %d", text, b, n, got, want, line, e)
	}
}

func TestNames(t *testing.T) {
	all := rows()
	if len(all) != 49 {
		t.Fatalf("the table has %d rows", len(all))
	}
	for k, r := range all {
		if rv.Name(k+1) != r.name {
			t.Errorf("Op %d: %q, in the table %q", k+1, rv.Name(k+1), r.name)
		}
	}
}

func TestThereAndBack(t *testing.T) {
	for k, r := range rows() {
		numbers := []int64{r.least, r.least + r.step, r.mid(), 0, r.step, r.most - r.step, r.most}
		if !r.hasNumber() {
			numbers = []int64{0}
		}
		for n := 0; n < 32; n++ {
			for _, v := range numbers {
				d, s, u := n, 31-n, (n+7)%32
				i := r.ins(k+1, d, s, u, v)
				text := tidy(r.written(x(d), x(s), x(u), dec(v)))
				wantText(t, i, text)
				wantParse(t, text, i, api.OK)
			}
		}
	}
}

func TestEachNumberThereAndBack(t *testing.T) {
	for k, r := range rows() {
		if !r.hasNumber() || r.most-r.least > 5000 {
			continue
		}
		for v := r.least; v <= r.most; v += r.step {
			i := r.ins(k+1, 1, 2, 3, v)
			text := tidy(r.written("x1", "x2", "x3", dec(v)))
			wantText(t, i, text)
			wantParse(t, text, i, api.OK)
		}
	}
}

func TestTheChaptersTexts(t *testing.T) {
	for text, i := range map[string]rv.Ins{
		"lui x1, 74565":      {Op: 1, Rd: 1, Imm: 0x12345000},
		"lui x1, 524288":     {Op: 1, Rd: 1, Imm: -2147483648},
		"auipc x1, 1048575":  {Op: 2, Rd: 1, Imm: -4096},
		"jal x1, -2":         {Op: 3, Rd: 1, Imm: -2},
		"jalr x1, -3(x2)":    {Op: 4, Rd: 1, Rs1: 2, Imm: -3},
		"beq x1, x2, 8":      {Op: 5, Rs1: 1, Rs2: 2, Imm: 8},
		"lw x1, 4(x2)":       {Op: 13, Rd: 1, Rs1: 2, Imm: 4},
		"sw x2, 4(x1)":       {Op: 18, Rs1: 1, Rs2: 2, Imm: 4},
		"addi x1, x2, 5":     {Op: 19, Rd: 1, Rs1: 2, Imm: 5},
		"addi x1, x0, -1":    {Op: 19, Rd: 1, Imm: -1},
		"add x1, x2, x3":     {Op: 28, Rd: 1, Rs1: 2, Rs2: 3},
		"remu x10, x20, x30": {Op: 45, Rd: 10, Rs1: 20, Rs2: 30},
		"fence":              {Op: 46},
		"fence.i":            {Op: 47},
		"ecall":              {Op: 48},
		"ebreak":             {Op: 49},
	} {
		wantText(t, i, text)
		wantParse(t, text, i, api.OK)
	}
}

func TestTextOfWhatEncodeRefuses(t *testing.T) {
	for _, op := range []int{math.MinInt, -1, 0, 50, 51, math.MaxInt} {
		wantText(t, rv.Ins{Op: op}, "")
		wantText(t, rv.Ins{Op: op, Rd: 1, Rs1: 2, Rs2: 3, Imm: 4}, "")
	}
	numbers := []int32{-1 << 31, -1048578, -1048577, -4098, -4097, -2049, -1, 1, 2, 3, 32, 2048, 4095, 4096, 1048575, 1048576, 1<<31 - 1}
	for k := range rows() {
		for _, bad := range []rv.Ins{{Rd: 32}, {Rd: -1}, {Rs1: 32}, {Rs1: -1}, {Rs2: 32}, {Rs2: -1}, {Rd: 1, Rs1: 1, Rs2: 1, Imm: 2}} {
			bad.Op = k + 1
			if _, e := rv.Encode(bad); e == api.OK {
				t.Errorf("Encode takes %+v", bad)
			}
			wantText(t, bad, "")
		}
		for _, n := range numbers {
			i := rv.Ins{Op: k + 1, Imm: n}
			_, e := rv.Encode(i)
			if got := Text(i); (got == "") != (e != api.OK) {
				t.Errorf("P6.1: Text(%+v): %q, Encode %d", i, got, e)
			}
		}
	}
}

func TestNumbersBeyondTheirBounds(t *testing.T) {
	far := []int64{-9999999999, -4294967297, -4294967296, -4294967295, -2147483649, -2147483648, 2147483647, 2147483648, 4294967295, 4294967296, 4294967297, 9999999999}
	for _, r := range rows() {
		if !r.hasNumber() {
			continue
		}
		numbers := append([]int64{r.least - 1, r.least - r.step, r.most + 1, r.most + r.step}, far...)
		if r.step > 1 {
			numbers = append(numbers, 1, -1, r.least+1, r.most-1)
		}
		for _, n := range numbers {
			wantParse(t, tidy(r.written("x1", "x2", "x3", dec(n))), rv.Ins{}, api.EARG)
		}
	}
}

func TestWhatIsNoNumber(t *testing.T) {
	for _, r := range rows() {
		if !r.hasNumber() {
			continue
		}
		for _, n := range []string{
			"", "-", "-0", "--1", "- 1", "-\t1", "+1", "00", "01", "-01", "0x1", "1x", "1.", "1e1", "1_0", "x1", "-x1", "1-", "1 1", "1,",
			"10000000000", "99999999999", "-10000000000", "00000000000", "99999999999999999999999999", "0000000001", "\u0661", "\xff", "1\x00", "'1'", "(1)", "1\v", "1/", "1:", "/", ":", "\u00a01", "a",
		} {
			wantParse(t, tidy(r.written("x1", "x2", "x3", n)), rv.Ins{}, api.ESYNTAX)
		}
	}
}

func TestWhatIsNoRegister(t *testing.T) {
	for _, r := range rows() {
		for _, bad := range []string{
			"", "x", "x32", "x33", "x99", "x100", "x01", "x00", "x-0", "x-1", "x+1", "x 1", "x1x", "1", "-1", "0", "X1", "y1", "xx1", "ra", "sp", "zero", "x1 x1", "x1,", "(x1)",
			"x4294967296", "x4294967297", "x18446744073709551617", "x\u0661", "x1\r", "x1.", "x/", "x1/", "x:", "x1:", "a0",
		} {
			for at, token := range r.tokens {
				if strings.Contains(",()NU", token) {
					continue
				}
				tokens := r.written("x1", "x2", "x3", dec(r.least))
				tokens[at+1] = bad
				wantParse(t, tidy(tokens), rv.Ins{}, api.ESYNTAX)
			}
		}
	}
}

// What is no text is told as such, though Encode would refuse its number too.
func TestNoTextComesFirst(t *testing.T) {
	for _, s := range []string{
		"addi x1, x0, 5000 5", "addi x1, x0, 5000,", "lw x1, 5000(x2", "lw x1, 5000(x32)", "lw x1, 9999999999[x2]", "jalr x1, 5000", "sw x1, 9999999999(2)", "lui x1, 1048576)",
	} {
		wantParse(t, s, rv.Ins{}, api.ESYNTAX)
	}
}

func TestBlanks(t *testing.T) {
	r := rand.New(rand.NewSource(6))
	some := func() string {
		return []string{"", "", " ", "\t", "  ", "\t\t", " \t", "\t \t ", strings.Repeat(" ", 300)}[r.Intn(9)]
	}
	for k, row := range rows() {
		i := row.ins(k+1, 31, 0, 10, row.least)
		tokens := row.written("x31", "x0", "x10", dec(row.least))
		for n := 0; n < 200; n++ {
			text := some() + tokens[0]
			if len(tokens) > 1 {
				text += []string{" ", "\t"}[r.Intn(2)]
			}
			for _, token := range tokens[1:] {
				text += some() + token
			}
			wantParse(t, text+some(), i, api.OK)
		}
		for gap := 0; gap <= len(tokens); gap++ {
			for _, blank := range []string{"\n", "\r", "\v", "\f", "\x00", "\u00a0", "\u2003", "#", ";", "."} {
				text := strings.Join(tokens[:gap], " ") + blank + strings.Join(tokens[gap:], " ")
				wantParse(t, text, rv.Ins{}, api.ESYNTAX)
				text = strings.Join(tokens[:gap], " ") + " " + blank + " " + strings.Join(tokens[gap:], " ")
				wantParse(t, text, rv.Ins{}, api.ESYNTAX)
			}
		}
	}
}

// A token too few, too many, twice, two of them changed about, or something
// behind the last of them.
func TestTokensOutOfPlace(t *testing.T) {
	for k, row := range rows() {
		tokens := row.written("x1", "x2", "x3", dec(row.least))
		i := row.ins(k+1, 1, 2, 3, row.least)
		wantParse(t, strings.Join(tokens, " "), i, api.OK)
		for at := range tokens {
			cut := append(append([]string{}, tokens[:at]...), tokens[at+1:]...)
			wantParse(t, strings.Join(cut, " "), rv.Ins{}, api.ESYNTAX)
			twice := append(append([]string{}, tokens[:at+1]...), tokens[at:]...)
			wantParse(t, strings.Join(twice, " "), rv.Ins{}, api.ESYNTAX)
			for _, other := range []string{",", "(", ")", "x", "[", "-", "+", "a"} {
				if tokens[at] != other {
					changed := append([]string{}, tokens...)
					changed[at] = other
					wantParse(t, strings.Join(changed, " "), rv.Ins{}, api.ESYNTAX)
				}
			}
		}
		for at := 1; at < len(tokens); at++ {
			about := append([]string{}, tokens...)
			about[at-1], about[at] = about[at], about[at-1]
			wantParse(t, strings.Join(about, " "), rv.Ins{}, api.ESYNTAX)
		}
		for _, more := range []string{",", "(", ")", "x1", "1", ", x1", ", 1", "(x1)", row.name, "#", "\n"} {
			wantParse(t, strings.Join(tokens, " ")+" "+more, rv.Ins{}, api.ESYNTAX)
		}
	}
}

func TestNamesThatAreNone(t *testing.T) {
	for _, row := range rows() {
		rest := strings.Join(row.written("x1", "x2", "x3", dec(row.least))[1:], "")
		for _, name := range []string{
			strings.ToUpper(row.name), row.name + "x", "z" + row.name, row.name + ".", row.name + row.name, row.name[:1], row.name + "\x00", row.name + ",", row.name + "(", "word", "nop", "", "#" + row.name, row.name + "#",
		} {
			wantParse(t, name+" "+rest, rv.Ins{}, api.ESYNTAX)
		}
		if rest != "" {
			wantParse(t, row.name+rest, rv.Ins{}, api.ESYNTAX)
		}
	}
	for _, s := range []string{"", " ", "\t", "\n", "#", "word", "word 0", "word 19", ",", "(", "x1", "0", "fence .i", "fence. i", "fence.", "e call", "addi\nx1, x2, 3"} {
		wantParse(t, s, rv.Ins{}, api.ESYNTAX)
	}
}

// model reads a text by a regular expression of each Op's own.
type model struct{ all []*regexp.Regexp }

func newModel() model {
	var m model
	for _, r := range rows() {
		form := `[ \t]*` + regexp.QuoteMeta(r.name)
		for k, token := range r.tokens {
			form += `[ \t]` + []string{"+", "*"}[min(k, 1)]
			switch token {
			case "D", "S", "T":
				form += `x(?P<` + token + `>[12]?[0-9]|3[01])`
			case "N", "U":
				form += `(?P<` + token + `>0|-?[1-9][0-9]{0,9})`
			default:
				form += regexp.QuoteMeta(token)
			}
		}
		m.all = append(m.all, regexp.MustCompile(`\A(?:`+form+`[ \t]*)\z`))
	}
	return m
}

func (m model) parse(s string) (rv.Ins, api.Errno) {
	for k, r := range rows() {
		found := m.all[k].FindStringSubmatch(s)
		if found == nil {
			continue
		}
		got := map[string]int64{}
		for at, name := range m.all[k].SubexpNames() {
			if name != "" {
				got[name], _ = strconv.ParseInt(found[at], 10, 64)
			}
		}
		n := got["N"] + got["U"]
		if n < r.least || n > r.most || n%r.step != 0 {
			return rv.Ins{}, api.EARG
		}
		return r.ins(k+1, int(got["D"]), int(got["S"]), int(got["T"]), n), api.OK
	}
	return rv.Ins{}, api.ESYNTAX
}

// spoil changes a text a little, often to something that is still one.
func spoil(r *rand.Rand, s string) string {
	const letters = "  \t\t,,(())xx--0123456789abdilruw.#\n\r+\x00\xff"
	b := []byte(s)
	for n := r.Intn(3); n > 0 && len(b) > 0; n-- {
		at := r.Intn(len(b))
		c := letters[r.Intn(len(letters))]
		switch r.Intn(4) {
		case 0:
			b[at] = c
		case 1:
			b = append(b[:at], b[at+1:]...)
		case 2:
			b = append(b[:at], append([]byte{c}, b[at:]...)...)
		case 3:
			b[at], b[r.Intn(len(b))] = b[r.Intn(len(b))], b[at]
		}
	}
	return string(b)
}

func anyText(r *rand.Rand, all []row) string {
	row := all[r.Intn(len(all))]
	n := row.least + r.Int63n((row.most-row.least)/row.step+1)*row.step
	switch r.Intn(8) {
	case 0:
		n = row.most + r.Int63n(4)
	case 1:
		n = row.least - r.Int63n(4)
	case 2:
		n = r.Int63n(20000000000) - 10000000000
	}
	tokens := row.written(x(r.Intn(33)), x(r.Intn(33)), x(r.Intn(33)), dec(n))
	if r.Intn(2) == 0 {
		return tidy(tokens)
	}
	return strings.Join(tokens, []string{" ", "\t", " \t "}[r.Intn(3)])
}

func TestParseAgainstTheModel(t *testing.T) {
	r := rand.New(rand.NewSource(61))
	m, all := newModel(), rows()
	count := map[api.Errno]int{}
	for n := 0; n < 20000; n++ {
		s := spoil(r, anyText(r, all))
		want, e := m.parse(s)
		wantParse(t, s, want, e)
		count[e]++
	}
	for _, e := range []api.Errno{api.OK, api.EARG, api.ESYNTAX} {
		if count[e] < 1000 {
			t.Errorf("only %d texts come to %d", count[e], e)
		}
	}
}

func TestAllWords(t *testing.T) {
	for text, want := range map[string]uint32{
		"word 0": 0, "word 1": 1, "word 4294967295": 4294967295, "word 4294967294": 4294967294, "word 305419896": 0x12345678, "word 2147483648": 0x80000000,
		" \tword\t \t7 \t": 7, "word 9 # 10": 9, "word 3#": 3, "\tword 5": 5,
	} {
		wantAll(t, text, wordBytes(want), 0, api.OK)
	}
	for _, text := range []string{
		"word", "word ", "word\t", "word5", "word -1", "word -0", "word 4294967296", "word 4294967297", "word 9999999999", "word 10000000000", "word 18446744073709551616",
		"word 01", "word 00", "word +1", "word 0x1", "word x1", "word 1 2", "word 1, 2", "word 1,", "word, 1", "word (1)", "word 1)", "Word 1", "WORD 1", "words 1", "word.1", "word #1", "word - 1",
		"word word 1", "word 1\r", "word 1\x00", "word -4294967295", "word 1 word 1",
	} {
		wantAll(t, text, nil, 1, api.ESYNTAX)
		wantAll(t, "ecall\n\n"+text+"\nwhat", nil, 3, api.ESYNTAX)
	}
}

func TestAllLines(t *testing.T) {
	addi, ecall := wordBytes(0xfff00093), wordBytes(115)
	both := append(append([]byte{}, addi...), ecall...)
	for text, want := range map[string][]byte{
		"": nil, "\n": nil, " ": nil, "\t": nil, "#": nil, "#\n": nil, " \t# addi x1, x0, -1": nil, "# what\n#\n ## what # \n": nil,
		"addi x1, x0, -1":                             addi,
		"addi x1, x0, -1\n":                           addi,
		"addi x1, x0, -1#":                            addi,
		"addi x1, x0, -1 # word 5\n":                  addi,
		"#\n\n \n\t\n\taddi x1 ,x0,-1\t\n":            addi,
		"addi x1, x0, -1\necall":                      both,
		"\n\naddi x1, x0, -1 # a\n# b\n \n ecall#c\n": both,
		"addi x1, x0, -1\nword 115\n":                 both,
		"word 4293918867\necall\n\n\n":                both,
		"addi x1, x0, -1 # \x00\xff\r\necall # \r\n":  both,
	} {
		wantAll(t, text, want, 0, api.OK)
	}
}

func TestAllRefusesTheFirstLine(t *testing.T) {
	for _, c := range []struct {
		text string
		line int
		e    api.Errno
	}{
		{"what", 1, api.ESYNTAX}, {"\nwhat", 2, api.ESYNTAX}, {"#\n \n\t# x\nwhat\n", 4, api.ESYNTAX},
		{"ecall\naddi x1, x0, 2048\nwhat", 2, api.EARG}, {"ecall\nwhat\naddi x1, x0, 2048", 2, api.ESYNTAX},
		{"addi x1, x0, -2049", 1, api.EARG}, {"lui x1, 1048576 # 5", 1, api.EARG}, {"beq x1, x2, 1\nword -1", 1, api.EARG},
		{"ecall ecall", 1, api.ESYNTAX}, {"ecall\r\necall", 1, api.ESYNTAX}, {"addi x1, x0, # 5\n5", 1, api.ESYNTAX}, {"\r\n", 1, api.ESYNTAX}, {"\v", 1, api.ESYNTAX}, {"\n\x00", 2, api.ESYNTAX},
		{"ecall; ecall", 1, api.ESYNTAX}, {"// ecall", 1, api.ESYNTAX}, {"ecall\n\n\n\nadd x1, x2", 5, api.ESYNTAX},
		{strings.Repeat("\n", 399) + "what", 400, api.ESYNTAX}, {strings.Repeat("ecall\n", 399) + "jal x1, 1\n", 400, api.EARG},
	} {
		wantAll(t, c.text, nil, c.line, c.e)
	}
}

func TestAllLimits(t *testing.T) {
	if api.MaxLines != 400 || api.MaxText != 16384 {
		t.Fatalf("the limits are others")
	}
	ecalls := bytes.Repeat(wordBytes(115), 400)
	for text, want := range map[string][]byte{
		strings.Repeat("\n", 400):                             nil,
		strings.Repeat("ecall\n", 400):                        ecalls,
		strings.Repeat("ecall\n", 399) + "ecall":              ecalls,
		strings.Repeat("ecall # "+"twelve letters\n", 400):    ecalls,
		strings.Repeat(" ", 16384):                            nil,
		"ecall" + strings.Repeat(" ", 16379):                  ecalls[:4],
		"#" + strings.Repeat("x", 16382) + "\n":               nil,
		strings.Repeat("\n", 399) + strings.Repeat("#", 10):   nil,
		strings.Repeat("ecall\n", 399) + "#" + "no more\n":    ecalls[:399*4],
		strings.Repeat("#"+strings.Repeat("x", 39)+"\n", 399): nil,
	} {
		wantAll(t, text, want, 0, api.OK)
	}
	for _, text := range []string{
		strings.Repeat("\n", 401), strings.Repeat("\n", 400) + " ", strings.Repeat("\n", 400) + "ecall", strings.Repeat("ecall\n", 400) + "#", strings.Repeat("ecall\n", 401),
		strings.Repeat(" ", 16385), "ecall" + strings.Repeat(" ", 16380), "#" + strings.Repeat("x", 16383) + "\n",
		"what\n" + strings.Repeat("\n", 400), "what" + strings.Repeat(" ", 16381), strings.Repeat("addi x1, x0, 5000\n", 401), strings.Repeat("\n", 20000), strings.Repeat("x", 1<<20),
	} {
		wantAll(t, text, nil, 0, api.ELIMIT)
	}
}

// Each line is what Parse and Encode make of it.
func TestAllAgainstParse(t *testing.T) {
	r := rand.New(rand.NewSource(62))
	rowsOf := rows()
	for n := 0; n < 300; n++ {
		var text []string
		var want []byte
		line, e := 0, api.OK
		for k := r.Intn(20); k > 0; k-- {
			s := anyText(r, rowsOf)
			if r.Intn(8) == 0 {
				s = spoil(r, s)
			}
			if i, err := Parse(s); err != api.OK {
				if n%4 > 0 || strings.ContainsAny(s, "\n#") {
					continue
				}
				if e == api.OK {
					line, e = len(text)+1, err
				}
			} else {
				w, _ := rv.Encode(i)
				want = append(want, wordBytes(w)...)
			}
			text = append(text, s+[]string{"", " ", "# and so on"}[r.Intn(3)])
		}
		if e != api.OK {
			want = nil
		}
		wantAll(t, strings.Join(text, "\n"), want, line, e)
	}
}

// An answer is new memory: a change of one is not seen in the next.
func TestAllAnswersNewMemory(t *testing.T) {
	one, _, _ := All("ecall\nword 1")
	two, _, _ := All("ecall\nword 1")
	clear(one[:cap(one)])
	if want := []byte{115, 0, 0, 0, 1, 0, 0, 0}; !bytes.Equal(two, want) {
		t.Errorf("P6.1: a second answer is %x", two)
	}
	wantAll(t, "ecall\nword 1", []byte{115, 0, 0, 0, 1, 0, 0, 0}, 0, api.OK)
}

// Whatever a text is, all three calls end, and what they take comes back.
func TestAnyBytes(t *testing.T) {
	r := rand.New(rand.NewSource(63))
	for n := 0; n < 3000; n++ {
		b := make([]byte, r.Intn(40))
		r.Read(b)
		s := string(b)
		if i, e := Parse(s); e != api.ESYNTAX || i != (rv.Ins{}) {
			t.Errorf("P6.1: Parse(%q): %+v, %d", s, i, e)
		}
		All(s)
		w := r.Uint32()
		if i := rv.Decode(w); i.Op != 0 {
			wantParse(t, Text(i), i, api.OK)
		} else {
			wantText(t, i, "")
		}
	}
}
