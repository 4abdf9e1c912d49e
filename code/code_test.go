package code

import (
	"slices"
	"strings"
	"testing"
)

// A row says of a code what the document says of it, written out by hand.
type row struct {
	c              uint16
	kind           int
	name           string
	readsA, readsX bool
	writeA, writeX bool
}

// rows are in the order of the document's table. The kinds are numbers here, so that a constant of another value is seen.
var rows = []row{
	{0x20, 1, "ld", false, false, true, false},
	{0x80, 2, "ldlen", false, false, true, false},
	{0x00, 3, "ldi", false, false, true, false},
	{0x60, 4, "ldm", false, false, true, false},
	{0x01, 5, "ldxi", false, false, false, true},
	{0x61, 6, "ldxm", false, false, false, true},
	{0x81, 7, "ldxlen", false, false, false, true},
	{0x02, 8, "st", true, false, false, false},
	{0x03, 9, "stx", false, true, false, false},
	{0x04, 10, "add", true, false, true, false},
	{0x14, 10, "sub", true, false, true, false},
	{0x24, 10, "mul", true, false, true, false},
	{0x34, 10, "div", true, false, true, false},
	{0x44, 10, "or", true, false, true, false},
	{0x54, 10, "and", true, false, true, false},
	{0x64, 10, "lsh", true, false, true, false},
	{0x74, 10, "rsh", true, false, true, false},
	{0xa4, 10, "xor", true, false, true, false},
	{0x0c, 10, "addx", true, true, true, false},
	{0x1c, 10, "subx", true, true, true, false},
	{0x2c, 10, "mulx", true, true, true, false},
	{0x3c, 10, "divx", true, true, true, false},
	{0x4c, 10, "orx", true, true, true, false},
	{0x5c, 10, "andx", true, true, true, false},
	{0x6c, 10, "lshx", true, true, true, false},
	{0x7c, 10, "rshx", true, true, true, false},
	{0xac, 10, "xorx", true, true, true, false},
	{0x84, 10, "neg", true, false, true, false},
	{0x05, 11, "ja", false, false, false, false},
	{0x15, 12, "jeq", true, false, false, false},
	{0x25, 12, "jgt", true, false, false, false},
	{0x35, 12, "jge", true, false, false, false},
	{0x45, 12, "jset", true, false, false, false},
	{0x1d, 12, "jeqx", true, true, false, false},
	{0x2d, 12, "jgtx", true, true, false, false},
	{0x3d, 12, "jgex", true, true, false, false},
	{0x4d, 12, "jsetx", true, true, false, false},
	{0x06, 13, "ret", false, false, false, false},
	{0x16, 14, "reta", true, false, false, false},
	{0x07, 15, "tax", true, false, false, true},
	{0x87, 16, "txa", false, true, true, false},
}

// every is a row for each of the 65,536 codes; of those that aren't there all but the code is zero.
func every() []row {
	out := make([]row, 1<<16)
	for c := range out {
		out[c].c = uint16(c)
	}
	for _, r := range rows {
		out[r.c] = r
	}
	return out
}

// P4.1: the kinds are 0 to 16, in the order of the table.
func TestKindNumbers(t *testing.T) {
	for want, k := range []int{None, LdAbs, LdLen, LdImm, LdMem, LdxImm, LdxMem, LdxLen, St, Stx, Alu, Ja, Jif, RetK, RetA, Tax, Txa} {
		if k != want {
			t.Errorf("kind %d has the number %d", want, k)
		}
	}
}

// P4.1: 15 (in digits of sixteen) is jeq, of the kind Jif.
func TestExample(t *testing.T) {
	if k, name := Kind(0x15), Name(0x15); k != Jif || name != "jeq" {
		t.Error(k, name)
	}
}

// P4.1: the kind of each code, None of all that aren't there, whose lower byte is in the table or not.
func TestKind(t *testing.T) {
	for _, r := range every() {
		if k := Kind(r.c); k != r.kind {
			t.Errorf("Kind(%#x) = %d", r.c, k)
		}
	}
}

// P4.1: the name of each code, an empty one of all that aren't there.
func TestName(t *testing.T) {
	for _, r := range every() {
		if name := Name(r.c); name != r.name {
			t.Errorf("Name(%#x) = %q", r.c, name)
		}
	}
}

// P4.1: each name is found; what each code is called leads back to it.
func TestFind(t *testing.T) {
	for _, r := range rows {
		if c, ok := Find(r.name); c != r.c || !ok {
			t.Errorf("Find(%q) = %#x, %v", r.name, c, ok)
		}
		if c, ok := Find(Name(r.c)); c != r.c || !ok {
			t.Errorf("Find(Name(%#x)) = %#x, %v", r.c, c, ok)
		}
	}
}

// near are texts that differ from a name by a letter, or by little more.
func near(name string) []string {
	out := []string{name + "x", name + "xx", name + " ", " " + name, name + "\x00", name + name, name[1:], name[:len(name)-1], "x" + name, name + "i", name + "k", strings.ToUpper(name), strings.ToUpper(name[:1]) + name[1:]}
	for at := range name {
		out = append(out, name[:at]+"z"+name[at+1:], name[:at]+string(rune(name[at]^0x20))+name[at+1:], name[:at]+name[at+1:])
	}
	return out
}

// P4.1: no name of another text is found: the empty one, and ones that are near a name.
func TestFindOfNone(t *testing.T) {
	texts := []string{"", " ", "\x00", "\xff", "x", "a", "j", "negx", "jax", "retx", "ta", "Add", "jeqxx", "retk", "ldx", "ldabs", "mod", "modx", "jne", "jlt", "jle", "not", "sta", "tx", "xa", "taxx", "0", "32", "0x20", "none", strings.Repeat("add", 1000)}
	names := make(map[string]bool)
	for _, r := range rows {
		names[r.name] = true
		texts = append(texts, near(r.name)...)
	}
	for _, s := range texts {
		if names[s] {
			continue // addx is near add, and is one itself
		}
		if c, ok := Find(s); c != 0 || ok {
			t.Errorf("Find(%q) = %#x, %v", s, c, ok)
		}
	}
}

// P4.1: All has each code of the table once, rising.
func TestAll(t *testing.T) {
	var want []uint16
	for _, r := range every() {
		if r.kind != None {
			want = append(want, r.c)
		}
	}
	if len(want) != 41 {
		t.Fatalf("the table has %d codes", len(want))
	}
	for range 20 {
		if got := All(); !slices.Equal(got, want) {
			t.Fatalf("%x", got)
		}
	}
}

// P4.1 and rule 4: what All answers is new memory at each call, its spare room too.
func TestAllIsNew(t *testing.T) {
	want := slices.Clone(All())
	first, second := All(), All()
	for _, list := range [][]uint16{first, first[len(first):cap(first)]} {
		for at := range list {
			list[at] = 0xffff
		}
	}
	if !slices.Equal(second, want) {
		t.Errorf("the other list became %x", second)
	}
	if got := All(); !slices.Equal(got, want) {
		t.Errorf("then All() = %x", got)
	}
	_ = append(second[:0], 7)
	if got := All(); !slices.Equal(got, want) {
		t.Errorf("then All() = %x", got)
	}
}

// P4.1: ret and reta end, no other code does, there or not.
func TestEnds(t *testing.T) {
	for c := range 1 << 16 {
		if got := Ends(uint16(c)); got != (c == 0x06 || c == 0x16) {
			t.Errorf("Ends(%#x) = %v", c, got)
		}
	}
}

// P4.2: what each code looks at; those that aren't there look at nothing.
func TestReads(t *testing.T) {
	for _, r := range every() {
		if a, x := Reads(r.c); a != r.readsA || x != r.readsX {
			t.Errorf("Reads(%#x) (%s) = %v, %v", r.c, r.name, a, x)
		}
	}
}

// P4.2: what each code writes; those that aren't there write nothing.
func TestWrites(t *testing.T) {
	for _, r := range every() {
		if a, x := Writes(r.c); a != r.writeA || x != r.writeX {
			t.Errorf("Writes(%#x) (%s) = %v, %v", r.c, r.name, a, x)
		}
	}
}

// P4.2: of Alu and Jif just those look at X whose names end with x.
func TestReadsByName(t *testing.T) {
	for _, r := range rows {
		if r.kind != Alu && r.kind != Jif {
			continue
		}
		if _, x := Reads(r.c); x != strings.HasSuffix(r.name, "x") {
			t.Errorf("Reads(%s): X %v", r.name, x)
		}
	}
}
