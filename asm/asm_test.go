package asm

import (
	"fmt"
	"math"
	"regexp"
	"slices"
	"strings"
	"testing"

	"tamis/api"
)

// A row says of a code what its line has, written out by hand.
type row struct {
	c        uint16
	name     string
	k, jumps bool
}

var rows = []row{
	{0x20, "ld", true, false},
	{0x80, "ldlen", false, false},
	{0x00, "ldi", true, false},
	{0x60, "ldm", true, false},
	{0x01, "ldxi", true, false},
	{0x61, "ldxm", true, false},
	{0x81, "ldxlen", false, false},
	{0x02, "st", true, false},
	{0x03, "stx", true, false},
	{0x04, "add", true, false},
	{0x14, "sub", true, false},
	{0x24, "mul", true, false},
	{0x34, "div", true, false},
	{0x44, "or", true, false},
	{0x54, "and", true, false},
	{0x64, "lsh", true, false},
	{0x74, "rsh", true, false},
	{0xa4, "xor", true, false},
	{0x0c, "addx", false, false},
	{0x1c, "subx", false, false},
	{0x2c, "mulx", false, false},
	{0x3c, "divx", false, false},
	{0x4c, "orx", false, false},
	{0x5c, "andx", false, false},
	{0x6c, "lshx", false, false},
	{0x7c, "rshx", false, false},
	{0xac, "xorx", false, false},
	{0x84, "neg", false, false},
	{0x05, "ja", true, false},
	{0x15, "jeq", true, true},
	{0x25, "jgt", true, true},
	{0x35, "jge", true, true},
	{0x45, "jset", true, true},
	{0x1d, "jeqx", false, true},
	{0x2d, "jgtx", false, true},
	{0x3d, "jgex", false, true},
	{0x4d, "jsetx", false, true},
	{0x06, "ret", true, false},
	{0x16, "reta", false, false},
	{0x07, "tax", false, false},
	{0x87, "txa", false, false},
}

// words and bytes are the numbers that are tried as K, and as Jt and Jf.
var (
	words = []uint32{0, 1, 9, 10, 11, 99, 100, 101, 255, 256, 65535, 65536, 999999999, 1000000000, 1 << 31, 0xc000003e, math.MaxUint32 - 1, math.MaxUint32}
	bytes = []uint8{0, 1, 9, 10, 99, 100, 127, 128, 254, 255}
)

// A pair is an instruction and its line.
type pair struct {
	i    api.Instr
	line string
}

// pairs are those of each code with all numbers that are tried. The lines are made from the rows, by the library alone.
func pairs() []pair {
	var out []pair
	for _, r := range rows {
		ks, js := words, bytes
		if !r.k {
			ks = ks[:1]
		}
		if !r.jumps {
			js = js[:1]
		}
		for _, k := range ks {
			for _, jt := range js {
				for _, jf := range js {
					line := r.name
					if r.k {
						line += fmt.Sprintf(" %d", k)
					}
					if r.jumps {
						line += fmt.Sprintf(" %d %d", jt, jf)
					}
					out = append(out, pair{api.Instr{Code: r.c, Jt: jt, Jf: jf, K: k}, line})
				}
			}
		}
	}
	return out
}

// few are pairs, one or two a code, for what is tried of each of them at length.
func few() []pair {
	var out []pair
	for _, r := range rows {
		i := api.Instr{Code: r.c}
		line := r.name
		if r.k {
			i.K = 1040
			line += " 1040"
		}
		if r.jumps {
			i.Jt, i.Jf = 25, 7
			line += " 25 7"
		}
		out = append(out, pair{i, line})
		if r.k || r.jumps {
			out = append(out, pair{api.Instr{Code: r.c}, strings.NewReplacer("1040", "0", "25", "0", "7", "0").Replace(line)})
		}
	}
	return out
}

// forms tells of any text whether it is a line, and which one, by a way of its own.
type forms struct {
	alone, k, both, jumps *regexp.Regexp
}

func newForms() forms {
	const number = "(0|[1-9][0-9]*)"
	names := make(map[[2]bool][]string)
	for _, r := range rows {
		kind := [2]bool{r.k, r.jumps}
		names[kind] = append(names[kind], r.name)
	}
	form := func(k, jumps bool, behind string) *regexp.Regexp {
		return regexp.MustCompile(`\A(` + strings.Join(names[[2]bool{k, jumps}], "|") + `)` + behind + `\z`)
	}
	return forms{
		alone: form(false, false, ""),
		k:     form(true, false, " "+number),
		both:  form(true, true, " "+number+" "+number+" "+number),
		jumps: form(false, true, " "+number+" "+number),
	}
}

// below tells whether a number without leading noughts is at most most.
func below(s, most string) bool {
	return len(s) < len(most) || len(s) == len(most) && s <= most
}

func (f forms) isLine(s string) bool {
	const word, byte8 = "4294967295", "255"
	if f.alone.MatchString(s) {
		return true
	}
	if m := f.k.FindStringSubmatch(s); m != nil {
		return below(m[2], word)
	}
	if m := f.both.FindStringSubmatch(s); m != nil {
		return below(m[2], word) && below(m[3], byte8) && below(m[4], byte8)
	}
	if m := f.jumps.FindStringSubmatch(s); m != nil {
		return below(m[2], byte8) && below(m[3], byte8)
	}
	return false
}

// checkForm holds that a text is no line.
func checkForm(t *testing.T, s string) {
	t.Helper()
	if i, e := Parse(s); i != (api.Instr{}) || e != api.ErrForm {
		t.Errorf("Parse(%.80q) = %+v, %d", s, i, e)
	}
}

// checkRead holds what is read of a text that is no program's.
func checkRead(t *testing.T, s string, place int, want api.Errno) {
	t.Helper()
	list, at, e := Read(s)
	if len(list) != 0 || at != place || e != want {
		t.Errorf("Read(%.80q) (%d bytes) = %.5v, %d, %d, not %d at %d", s, len(s), list, at, e, want, place)
	}
}

// P5.1: digits of ten, at the edges of their count.
func TestNumber(t *testing.T) {
	cases := map[uint32]string{
		0: "0", 1: "1", 9: "9", 10: "10", 11: "11", 99: "99", 100: "100", 101: "101",
		255: "255", 256: "256", 999: "999", 1000: "1000", 999999999: "999999999", 1000000000: "1000000000",
		2147483647: "2147483647", 2147483648: "2147483648", 4294967294: "4294967294", 4294967295: "4294967295",
	}
	for n, want := range cases {
		if s := Number(n); s != want {
			t.Errorf("Number(%d) = %q", n, s)
		}
	}
	for n := range uint32(100000) {
		for _, n := range []uint32{n, n * 42949, math.MaxUint32 - n} {
			if s := Number(n); s != fmt.Sprint(n) {
				t.Fatalf("Number(%d) = %q", n, s)
			}
		}
	}
}

// P5.1: the document's example, and lines written out by hand.
func TestLineByHand(t *testing.T) {
	cases := []pair{
		{api.Instr{Code: 0x15, K: 7, Jt: 1}, "jeq 7 1 0"},
		{api.Instr{Code: 0x1d, Jt: 255, Jf: 3}, "jeqx 255 3"},
		{api.Instr{Code: 0x4d}, "jsetx 0 0"},
		{api.Instr{Code: 0x05, K: 4294967295}, "ja 4294967295"},
		{api.Instr{Code: 0x00}, "ldi 0"},
		{api.Instr{Code: 0x03, K: 15}, "stx 15"},
		{api.Instr{Code: 0x80}, "ldlen"},
		{api.Instr{Code: 0x81}, "ldxlen"},
		{api.Instr{Code: 0x84}, "neg"},
		{api.Instr{Code: 0x5c}, "andx"},
		{api.Instr{Code: 0x07}, "tax"},
		{api.Instr{Code: 0x87}, "txa"},
		{api.Instr{Code: 0x16}, "reta"},
		{api.Instr{Code: 0x06, K: 10}, "ret 10"},
	}
	for _, c := range cases {
		if s, e := Line(c.i); s != c.line || e != api.OK {
			t.Errorf("Line(%+v) = %q, %d, not %q", c.i, s, e, c.line)
		}
		if i, e := Parse(c.line); i != c.i || e != api.OK {
			t.Errorf("Parse(%q) = %+v, %d, not %+v", c.line, i, e, c.i)
		}
	}
}

// P5.1: the line of each code that is there, and back.
func TestLineAndParse(t *testing.T) {
	for _, p := range pairs() {
		if s, e := Line(p.i); s != p.line || e != api.OK {
			t.Errorf("Line(%+v) = %q, %d, not %q", p.i, s, e, p.line)
		}
		if i, e := Parse(p.line); i != p.i || e != api.OK {
			t.Errorf("Parse(%q) = %+v, %d, not %+v", p.line, i, e, p.i)
		}
	}
}

// P5.1: ErrCode of each code that isn't there, also where nothing else is 0.
func TestLineCode(t *testing.T) {
	there := make(map[int]bool)
	for _, r := range rows {
		there[int(r.c)] = true
	}
	if len(there) != 41 {
		t.Fatalf("the table has %d codes", len(there))
	}
	for c := range 1 << 16 {
		if there[c] {
			continue
		}
		for _, i := range []api.Instr{{Code: uint16(c)}, {Code: uint16(c), Jt: 1, Jf: 1, K: 1}} {
			if s, e := Line(i); s != "" || e != api.ErrCode {
				t.Errorf("Line(%+v) = %q, %d", i, s, e)
			}
		}
	}
}

// P5.1: ErrArg where one of what isn't written isn't 0, whatever the others are.
func TestLineArg(t *testing.T) {
	for _, r := range rows {
		for _, k := range []uint32{0, 1, 256, 1 << 31} {
			for _, jt := range []uint8{0, 1, 128} {
				for _, jf := range []uint8{0, 1, 128} {
					i := api.Instr{Code: r.c, Jt: jt, Jf: jf, K: k}
					want := api.OK
					if !r.k && k != 0 || !r.jumps && (jt != 0 || jf != 0) {
						want = api.ErrArg
					}
					if s, e := Line(i); e != want || (s == "") != (e != api.OK) {
						t.Errorf("%s: Line(%+v) = %q, %d, not %d", r.name, i, s, e, want)
					}
				}
			}
		}
	}
}

// P5.1: the cases of ErrArg and ErrCode by hand.
func TestLineErrors(t *testing.T) {
	cases := []struct {
		i api.Instr
		e api.Errno
	}{
		{api.Instr{Code: 0x07, K: 1}, api.ErrArg},
		{api.Instr{Code: 0x06, Jt: 1}, api.ErrArg},
		{api.Instr{Code: 0x06, K: 7, Jf: 1}, api.ErrArg},
		{api.Instr{Code: 0x1d, K: 1}, api.ErrArg},
		{api.Instr{Code: 0x1d, K: 1, Jt: 2, Jf: 3}, api.ErrArg},
		{api.Instr{Code: 0x05, Jt: 1}, api.ErrArg},
		{api.Instr{Code: 0x05, Jf: 1}, api.ErrArg},
		{api.Instr{Code: 0x84, K: 1}, api.ErrArg},
		{api.Instr{Code: 0x0c, K: 1}, api.ErrArg},
		{api.Instr{Code: 0x80, K: 1}, api.ErrArg},
		{api.Instr{Code: 0x81, K: 1}, api.ErrArg},
		{api.Instr{Code: 0x16, K: 1}, api.ErrArg},
		{api.Instr{Code: 0x03, Jf: 255}, api.ErrArg},
		{api.Instr{Code: 0x08, K: 1}, api.ErrCode},
		{api.Instr{Code: 0x8c, K: 1, Jt: 1, Jf: 1}, api.ErrCode},
		{api.Instr{Code: 0x0d, Jt: 1}, api.ErrCode},
		{api.Instr{Code: 0x0120}, api.ErrCode},
		{api.Instr{Code: 0xffff, Jt: 255, Jf: 255, K: math.MaxUint32}, api.ErrCode},
	}
	for _, c := range cases {
		if s, e := Line(c.i); s != "" || e != c.e {
			t.Errorf("Line(%+v) = %q, %d, not %d", c.i, s, e, c.e)
		}
	}
}

// P5.1: ErrForm of texts that are near a line, by hand.
func TestParseNear(t *testing.T) {
	texts := []string{
		"", " ", "  ", "\n", "\x00", "0", "7", " 0", "x", "none 0",
		"ret", "ret ", "ret  ", "ja", "ld", "jeq", "jeqx", "stx", "neg ",
		"ret 00", "ret 01", "ret 007", "ret 000000000000000000000000000001", "jeq 01 0 0", "jeq 1 00 0", "jeq 1 0 00", "jeqx 01 0", "jeqx 0 010",
		"ret -1", "ret +1", "ret -0", "ret +0", "jeq 1 -1 0", "jeq 1 0 +1", "jeqx +0 0",
		"ret 0 0", "reta 0", "tax 0", "txa 0", "neg 0", "addx 0", "ldlen 0", "ldxlen 0", "jeqx 1 0 0", "jeq 1 0 0 0", "ja 0 0 0", "ja 0 0", "st 0 0",
		"jeq 1", "jeq 1 0", "jeqx 1", "jeqx", "jeq 1 0 ", "jeq 1  0", "jeq  0 0", "jeqx  0",
		"ret  1", "ret 1 ", " ret 1", "ret\t1", "ret 1\t", "ret 1\r", "ret\u00a01", "reta ", " reta", "ret1", "jeq 1,0,0", "jeq 1 0 0 ", "jeq 1 0  0", "jeqx 1  0",
		"ret 1\n", "\nret 1", "ret\n1", "ret \n1", "ret 1\n0", "reta\n", "\nreta", "re\nta", "ret 0\nret 0", "jeq 1\n0 0",
		"RET 1", "Ret 1", "reT 1", "RETA", "JEQ 1 0 0", "jeqX 0 0", "TAX",
		"ret 4294967296", "ret 4294967300", "ret 9999999999", "ret 10000000000", "ret 18446744073709551615", "ret 18446744073709551616", "ret 18446744073709551617", "ja 4294967296", "jeq 4294967296 0 0",
		"jeq 1 256 0", "jeq 1 0 256", "jeq 1 300 0", "jeq 1 1000 0", "jeq 1 0 4294967296", "jeqx 256 0", "jeqx 0 256", "jeqx 4294967295 0",
		"ret 0x1", "ret 1_0", "ret 1e1", "ret 1.", "ret 1.0", "ret a", "ret 1a", "ret a1", "ret ff", "ret 0b1", "ret 0o7", "ret '1'",
		"ret \u0661", "ret \u0967", "ret \uff11", "ret 1\u0661", "ret \u00b2", "jeq 1 \u0660 0", "ret 1\x00", "ret \xff", "\xffret 1", "ret\x00 1",
		"retk 1", "ldabs 0", "ldx 0", "jne 1 0 0", "mod 1", "negx", "jax 0",
		strings.Repeat("ret", 100000), "ret " + strings.Repeat("1", 100000), "ret " + strings.Repeat("0", 100000), strings.Repeat(" ", 100000), "jeq " + strings.Repeat("1 ", 100000),
	}
	for _, s := range texts {
		checkForm(t, s)
	}
}

// edits are the texts that a line becomes if it is cut in two, or if at some place a byte is left out, swapped with the next, or one of some others is put in or in its place.
func edits(line string) []string {
	const others = "\x00\t\n\r !+-.0129:;@AXZ_adejlnrstx\x7f\x80\xff"
	var out []string
	for at := range len(line) + 1 {
		for _, b := range []byte(others) {
			out = append(out, line[:at]+string([]byte{b})+line[at:])
			if at < len(line) {
				out = append(out, line[:at]+string([]byte{b})+line[at+1:])
			}
		}
		if at < len(line) {
			out = append(out, line[:at], line[at:], line[:at]+line[at+1:])
		}
		if at+1 < len(line) {
			out = append(out, line[:at]+line[at+1:at+2]+line[at:at+1]+line[at+2:])
		}
	}
	return out
}

// P5.1: what an edit makes of a line is either no line, or that of the instruction that has it.
func TestParseEdits(t *testing.T) {
	f := newForms()
	lines, none := 0, 0
	for _, p := range few() {
		for _, s := range edits(p.line) {
			if !f.isLine(s) {
				none++
				checkForm(t, s)
				continue
			}
			lines++
			i, e := Parse(s)
			if e != api.OK {
				t.Errorf("Parse(%q) = %+v, %d", s, i, e)
				continue
			}
			if back, e := Line(i); back != s || e != api.OK {
				t.Errorf("Line(Parse(%q)) = %q, %d", s, back, e)
			}
		}
	}
	if lines < 1000 || none < 10000 {
		t.Errorf("only %d lines and %d others were tried", lines, none)
	}
}

// P5.1: each of many numbers is read where it stands, up to its limit and not beyond it.
func TestParseLimits(t *testing.T) {
	for n := range uint64(1000) {
		for _, c := range []struct {
			form string
			most uint64
		}{{"jeq %d 0 0", math.MaxUint32}, {"jeq 0 %d 0", 255}, {"jeq 0 0 %d", 255}, {"jsetx %d 0", 255}, {"jsetx 0 %d", 255}, {"ld %d", math.MaxUint32}} {
			for _, n := range []uint64{n, math.MaxUint32 - 500 + n, 1<<33 - 500 + n, math.MaxUint64 - n} {
				s := fmt.Sprintf(c.form, n)
				if _, e := Parse(s); (e == api.OK) != (n <= c.most) {
					t.Errorf("Parse(%q): %d", s, e)
				}
				if n > c.most {
					checkForm(t, s)
				}
			}
		}
	}
}

// program is that of all pairs' instructions, as many as asked, and its text.
func program(n int) ([]api.Instr, string) {
	all := pairs()
	var list []api.Instr
	var text strings.Builder
	for at := range n {
		p := all[at*17%len(all)]
		list = append(list, p.i)
		text.WriteString(p.line + "\n")
	}
	return list, text.String()
}

// P5.2: a program's text is its lines, each with a line end; it is read as it was.
func TestPrintAndRead(t *testing.T) {
	for _, n := range []int{1, 2, 3, 41, 255, 256, 4095, 4096} {
		list, text := program(n)
		if s, e := Print(list); s != text || e != api.OK {
			t.Errorf("Print of %d: %d bytes, %d, not %d bytes", n, len(s), e, len(text))
		}
		back, at, e := Read(text)
		if !slices.Equal(back, list) || at != 0 || e != api.OK {
			t.Errorf("Read of %d lines: %d, %d, %d", n, len(back), at, e)
		}
	}
}

// P5.2: a text written out by hand.
func TestPrintByHand(t *testing.T) {
	list := []api.Instr{{Code: 0x20, K: 20}, {Code: 0x15, K: 1, Jf: 3}, {Code: 0x07}, {Code: 0x2d, Jt: 1}, {Code: 0x06, K: 1}, {Code: 0x16}}
	const text = "ld 20\njeq 1 0 3\ntax\njgtx 1 0\nret 1\nreta\n"
	if s, e := Print(list); s != text || e != api.OK {
		t.Errorf("%q %d", s, e)
	}
	if back, at, e := Read(text); !slices.Equal(back, list) || at != 0 || e != api.OK {
		t.Errorf("%+v %d %d", back, at, e)
	}
}

// P5.2: ErrShort, ErrLong, and the first line's error; nothing is told beside them.
func TestPrintErrors(t *testing.T) {
	ok := api.Instr{Code: 0x06, K: 1}
	arg := api.Instr{Code: 0x06, Jt: 1}
	none := api.Instr{Code: 0x08}
	cases := []struct {
		list []api.Instr
		e    api.Errno
	}{
		{nil, api.ErrShort},
		{[]api.Instr{}, api.ErrShort},
		{[]api.Instr{ok, ok}[:0], api.ErrShort},
		{slices.Repeat([]api.Instr{ok}, 4096), api.OK},
		{slices.Repeat([]api.Instr{ok}, 4097), api.ErrLong},
		{slices.Repeat([]api.Instr{none}, 4097), api.ErrLong},
		{slices.Repeat([]api.Instr{arg}, 4097), api.ErrLong},
		{append(slices.Repeat([]api.Instr{ok}, 4095), none), api.ErrCode},
		{append(slices.Repeat([]api.Instr{ok}, 4095), arg), api.ErrArg},
		{[]api.Instr{arg}, api.ErrArg},
		{[]api.Instr{none}, api.ErrCode},
		{[]api.Instr{ok, arg}, api.ErrArg},
		{[]api.Instr{ok, none}, api.ErrCode},
		{[]api.Instr{ok, arg, ok}, api.ErrArg},
		{[]api.Instr{ok, arg, none}, api.ErrArg},
		{[]api.Instr{ok, none, arg}, api.ErrCode},
		{[]api.Instr{ok, {Code: 0x08, K: 1, Jt: 1}, ok}, api.ErrCode},
	}
	for at, c := range cases {
		s, e := Print(c.list)
		if e != c.e || (s == "") != (e != api.OK) {
			t.Errorf("case %d: %d bytes, %d, not %d", at, len(s), e, c.e)
		}
	}
}

// P5.2: ErrShort at 0 of the empty text; ErrLong at 0 of more than 4096 line ends, ahead of ErrForm.
func TestReadLong(t *testing.T) {
	checkRead(t, "", 0, api.ErrShort)
	line := "ret 1\n"
	checkRead(t, strings.Repeat(line, 4097), 0, api.ErrLong)
	checkRead(t, strings.Repeat(line, 10000), 0, api.ErrLong)
	checkRead(t, strings.Repeat("\n", 4097), 0, api.ErrLong)
	checkRead(t, strings.Repeat("none\n", 4097), 0, api.ErrLong)
	checkRead(t, strings.Repeat(line, 2000)+"none\n"+strings.Repeat(line, 2096), 0, api.ErrLong)
	checkRead(t, strings.Repeat(line, 4097)+"ret 1", 0, api.ErrLong)
	// A last line without its end is a line too many, but no line end too many.
	checkRead(t, strings.Repeat(line, 4096)+"ret 1", 4096*len(line), api.ErrForm)
	checkRead(t, strings.Repeat("\n", 4096), 0, api.ErrForm)
	checkRead(t, strings.Repeat(line, 4095)+"\n", 4095*len(line), api.ErrForm)
	if list, at, e := Read(strings.Repeat(line, 4096)); len(list) != 4096 || at != 0 || e != api.OK {
		t.Error(len(list), at, e)
	}
}

// P5.2: ErrForm at the first byte of the first line that is none's, or that has no line end.
func TestReadForm(t *testing.T) {
	cases := []struct {
		s     string
		place int
	}{
		{"\n", 0}, {" ", 0}, {"x", 0}, {"\x00", 0},
		{"ret 0", 0}, {"ret", 0}, {"ret\n", 0}, {" ret 0\n", 0}, {"ret 0 \n", 0}, {"ret 0\r\n", 0},
		{"\nret 0\n", 0}, {"\n\n", 0}, {"ret 0\n\n", 6}, {"ret 0\n\nret 0\n", 6}, {"ret 0\n\n\n", 6},
		{"ld 0\nret 0", 5}, {"ld 0\nret", 5}, {"ld 0\n ", 5}, {"ld 0\n\x00", 5},
		{"ld 0\nret 0\nret x\nret 1\n", 11}, {"ld 0\nRET 0\nret x\n", 5}, {"ld 16\njeq 1 0 256\nret 0\n", 6},
		{"ld 0\nret x\nret 0", 5}, {"tax\nldlen 0\nret 0\n", 4}, {"tax\nret 4294967296\n", 4}, {"tax\nret 01\n", 4},
		{"ret 0\rret 0\r", 0}, {"ret 0\u2028", 0}, {"ret 0;ret 0\n", 0},
	}
	for _, c := range cases {
		checkRead(t, c.s, c.place, api.ErrForm)
	}
}

// P5.2: wherever in a program the bad line stands, its first byte is the place; a second bad line behind it changes nothing.
func TestReadFormAnywhere(t *testing.T) {
	list, text := program(60)
	lines := strings.SplitAfter(text, "\n")[:len(list)]
	place := 0
	for at, line := range lines {
		front, behind := strings.Join(lines[:at], ""), strings.Join(lines[at+1:], "")
		for _, bad := range []string{"\n", " " + line, "ret\n", "jeqx 1 0 0\n", "reta 0\n", "\xff\n"} {
			checkRead(t, front+bad+behind, place, api.ErrForm)
			checkRead(t, front+bad+behind+"none\n", place, api.ErrForm)
			checkRead(t, front+bad+behind+"ret 0", place, api.ErrForm)
		}
		checkRead(t, front+strings.TrimSuffix(line, "\n"), place, api.ErrForm)
		place += len(line)
	}
}

// P5.2: a text that is cut off anywhere is a program where a line ends, and else wrong where its last line begins.
func TestReadCut(t *testing.T) {
	list, text := program(30)
	for cut := 1; cut <= len(text); cut++ {
		s := text[:cut]
		whole := strings.Count(s, "\n")
		if !strings.HasSuffix(s, "\n") {
			checkRead(t, s, strings.LastIndex(s, "\n")+1, api.ErrForm)
			continue
		}
		if back, at, e := Read(s); !slices.Equal(back, list[:whole]) || at != 0 || e != api.OK {
			t.Errorf("Read(%q) = %+v, %d, %d", s, back, at, e)
		}
	}
}

// Rule 4: what is handed in stays as it is, its spare room too, and each answer is new memory.
func TestNothingShared(t *testing.T) {
	room, _ := program(6)
	before := slices.Clone(room)
	s, e := Print(room[1:4])
	if e != api.OK || !slices.Equal(room, before) {
		t.Fatalf("%d %+v", e, room)
	}
	first, _, _ := Read(s)
	second, _, _ := Read(s)
	first[0].K++
	if !slices.Equal(second, before[1:4]) {
		t.Error("two answers share memory")
	}
	if again, _, _ := Read(s); !slices.Equal(again, before[1:4]) {
		t.Error("an answer hangs on what was done to an earlier one")
	}
}
