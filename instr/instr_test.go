package instr

import (
	"slices"
	"strings"
	"testing"

	"tamis/api"
)

// corners are instructions each of whose bytes is told from the others.
var corners = []api.Instr{
	{},
	{Code: 0x0006, K: 1},
	{Code: 0x1234, Jt: 0x56, Jf: 0x78, K: 0x9abcdef0},
	{Code: 0x00ff},
	{Code: 0xff00},
	{Jt: 0xff},
	{Jf: 0xff},
	{K: 0x000000ff},
	{K: 0x0000ff00},
	{K: 0x00ff0000},
	{K: 0xff000000},
	{Code: 0xffff, Jt: 0xff, Jf: 0xff, K: 0xffffffff},
}

// many is a program whose instructions all differ.
func many(n int) []api.Instr {
	list := make([]api.Instr, n)
	for at := range list {
		list[at] = api.Instr{Code: uint16(at * 7), Jt: uint8(at), Jf: uint8(at >> 4), K: uint32(at) * 0x01000193}
	}
	return list
}

// manyBytes is bytes in no order that an instruction has.
func manyBytes(n int) string {
	out := make([]byte, n)
	state := uint32(1)
	for at := range out {
		state = state*1664525 + 1013904223
		out[at] = byte(state >> 24)
	}
	return string(out)
}

// P2.1: eight bytes, Code, Jt, Jf and K, the lowest byte first.
func TestOne(t *testing.T) {
	cases := []struct {
		i    api.Instr
		want string
	}{
		{api.Instr{}, "\x00\x00\x00\x00\x00\x00\x00\x00"},
		{api.Instr{Code: 6, K: 1}, "\x06\x00\x00\x00\x01\x00\x00\x00"},
		{api.Instr{Code: 0x1234, Jt: 0x56, Jf: 0x78, K: 0x9abcdef0}, "\x34\x12\x56\x78\xf0\xde\xbc\x9a"},
		{api.Instr{Code: 0xff00}, "\x00\xff\x00\x00\x00\x00\x00\x00"},
		{api.Instr{Jt: 0xff}, "\x00\x00\xff\x00\x00\x00\x00\x00"},
		{api.Instr{Jf: 0xff}, "\x00\x00\x00\xff\x00\x00\x00\x00"},
		{api.Instr{K: 0x80000000}, "\x00\x00\x00\x00\x00\x00\x00\x80"},
		{api.Instr{Code: 0xffff, Jt: 0xff, Jf: 0xff, K: 0xffffffff}, strings.Repeat("\xff", 8)},
	}
	for _, c := range cases {
		if s := One(c.i); s != c.want {
			t.Errorf("One(%+v): % x, not % x", c.i, s, c.want)
		}
		if list, e := Read(c.want); e != api.OK || len(list) != 1 || list[0] != c.i {
			t.Errorf("Read(% x): %+v %d, not %+v", c.want, list, e, c.i)
		}
	}
}

// P2.1: every number that a byte of an instruction may have goes to its own place.
func TestOneEachByte(t *testing.T) {
	for place := range size {
		for n := range 256 {
			bytes := make([]byte, size)
			bytes[place] = byte(n)
			list, e := Read(string(bytes))
			if e != api.OK || len(list) != 1 {
				t.Fatalf("Read(% x): %+v %d", bytes, list, e)
			}
			var want api.Instr
			switch place {
			case 0, 1:
				want.Code = uint16(n << (8 * place))
			case 2:
				want.Jt = uint8(n)
			case 3:
				want.Jf = uint8(n)
			default:
				want.K = uint32(n) << (8 * (place - 4))
			}
			if list[0] != want {
				t.Errorf("Read(% x): %+v, not %+v", bytes, list[0], want)
			}
			if s := One(want); s != string(bytes) {
				t.Errorf("One(%+v): % x, not % x", want, s, bytes)
			}
		}
	}
}

// P2.1: a program is printed as its instructions, one behind the other.
func TestPrint(t *testing.T) {
	var want strings.Builder
	for _, i := range corners {
		want.WriteString(One(i))
	}
	if s, e := Print(corners); s != want.String() || e != api.OK {
		t.Errorf("% x %d, not % x", s, e, want.String())
	}
	if s, e := Print([]api.Instr{{Code: 0x20, K: 4}, {Code: 6, K: 7}}); s != "\x20\x00\x00\x00\x04\x00\x00\x00\x06\x00\x00\x00\x07\x00\x00\x00" || e != api.OK {
		t.Errorf("% x %d", s, e)
	}
}

// P2.1: no instruction is ErrShort, more than 4096 are ErrLong, and nothing is told beside.
func TestPrintEdges(t *testing.T) {
	cases := []struct {
		list []api.Instr
		size int
		e    api.Errno
	}{
		{nil, 0, api.ErrShort},
		{[]api.Instr{}, 0, api.ErrShort},
		{many(8)[:0], 0, api.ErrShort},
		{many(1), 8, api.OK},
		{many(4095), 32760, api.OK},
		{many(4096), 32768, api.OK},
		{many(4097), 0, api.ErrLong},
		{many(10000), 0, api.ErrLong},
	}
	for _, c := range cases {
		if s, e := Print(c.list); len(s) != c.size || e != c.e {
			t.Errorf("Print of %d: %d bytes, %d, not %d and %d", len(c.list), len(s), e, c.size, c.e)
		}
	}
}

// P2.1: ErrShort of no bytes and of a length that is no multiple of 8, ahead of ErrLong.
func TestReadEdges(t *testing.T) {
	cases := []struct {
		bytes int
		count int
		e     api.Errno
	}{
		{0, 0, api.ErrShort},
		{1, 0, api.ErrShort},
		{4, 0, api.ErrShort},
		{7, 0, api.ErrShort},
		{8, 1, api.OK},
		{9, 0, api.ErrShort},
		{12, 0, api.ErrShort},
		{15, 0, api.ErrShort},
		{16, 2, api.OK},
		{32760, 4095, api.OK},
		{32767, 0, api.ErrShort},
		{32768, 4096, api.OK},
		{32769, 0, api.ErrShort},
		{32772, 0, api.ErrShort},
		{32775, 0, api.ErrShort},
		{32776, 0, api.ErrLong},
		{32777, 0, api.ErrShort},
		{65536, 0, api.ErrLong},
	}
	for _, c := range cases {
		list, e := Read(manyBytes(c.bytes))
		if len(list) != c.count || e != c.e {
			t.Errorf("Read of %d bytes: %d instructions, %d, not %d and %d", c.bytes, len(list), e, c.count, c.e)
		}
	}
}

// P2.2: the three parts of a code, at every code that there may be; the other fields don't count.
func TestParts(t *testing.T) {
	for code := range 1 << 16 {
		for _, i := range []api.Instr{{Code: uint16(code)}, {Code: uint16(code), Jt: 0xff, Jf: 0xff, K: 0xffffffff}} {
			if n := Class(i); n != code%8 {
				t.Fatalf("Class(%+v): %d", i, n)
			}
			if n := Op(i); n != code/16%16*16 {
				t.Fatalf("Op(%+v): %#x", i, n)
			}
			if x := FromX(i); x != (code/8%2 == 1) {
				t.Fatalf("FromX(%+v): %v", i, x)
			}
		}
	}
}

// P2.2: the parts are the numbers of package api.
func TestPartsNamed(t *testing.T) {
	cases := []struct {
		code      uint16
		class, op int
		x         bool
	}{
		{0x06, api.ClassRet, 0, false},
		{0x0c, api.ClassAlu, api.AAdd, true},
		{0x84, api.ClassAlu, api.ANeg, false},
		{0xac, api.ClassAlu, api.AXor, true},
		{0x05, api.ClassJmp, api.CJa, false},
		{0x15, api.ClassJmp, api.CEq, false},
		{0x4d, api.ClassJmp, api.CSet, true},
		{0x07, api.ClassMsc, 0, false},
		{0xffff, api.ClassMsc, 0xf0, true},
		{0xff00, api.ClassLd, 0, false},
	}
	for _, c := range cases {
		i := api.Instr{Code: c.code}
		if Class(i) != c.class || Op(i) != c.op || FromX(i) != c.x {
			t.Errorf("%#x: %d %#x %v, not %d %#x %v", c.code, Class(i), Op(i), FromX(i), c.class, c.op, c.x)
		}
	}
}

func checkSame(t *testing.T, a, b []api.Instr, want bool) {
	t.Helper()
	if Same(a, b) != want || Same(b, a) != want {
		t.Errorf("Same(%+v, %+v) isn't %v both ways", a, b, want)
	}
}

// P2.2: programs are the same, if all their instructions are; nil and an empty list are one.
func TestSame(t *testing.T) {
	checkSame(t, nil, nil, true)
	checkSame(t, nil, []api.Instr{}, true)
	checkSame(t, []api.Instr{}, []api.Instr{}, true)
	checkSame(t, nil, many(3)[:0], true)
	checkSame(t, nil, []api.Instr{{}}, false)
	checkSame(t, []api.Instr{}, []api.Instr{{}}, false)
	checkSame(t, []api.Instr{{}}, []api.Instr{{}, {}}, false)
	checkSame(t, corners, slices.Clone(corners), true)
	checkSame(t, corners, corners[:len(corners)-1], false)
	checkSame(t, corners, corners[1:], false)
	checkSame(t, many(2), []api.Instr{many(2)[1], many(2)[0]}, false)
	checkSame(t, many(4096), many(4096), true)
	// Lists that are too long for a program are lists all the same.
	checkSame(t, many(4097), many(4097), true)
	checkSame(t, many(4097), many(4098), false)
}

// P2.2: one field of one instruction is enough to part two lists, wherever it stands.
func TestSameOneField(t *testing.T) {
	parts := []func(i *api.Instr){
		func(i *api.Instr) { i.Code ^= 0x0001 },
		func(i *api.Instr) { i.Code ^= 0x8000 },
		func(i *api.Instr) { i.Jt ^= 0x80 },
		func(i *api.Instr) { i.Jf ^= 0x80 },
		func(i *api.Instr) { i.K ^= 0x00000001 },
		func(i *api.Instr) { i.K ^= 0x80000000 },
	}
	for at := range corners {
		for _, part := range parts {
			other := slices.Clone(corners)
			part(&other[at])
			checkSame(t, corners, other, false)
		}
	}
}

// P2.3: what is printed is read as it was.
func TestPrintedIsRead(t *testing.T) {
	for _, list := range [][]api.Instr{corners, many(1), many(2), many(255), many(256), many(4095), many(4096)} {
		s, e := Print(list)
		if e != api.OK {
			t.Fatalf("Print of %d: %d", len(list), e)
		}
		back, e := Read(s)
		if e != api.OK || !slices.Equal(back, list) || !Same(back, list) {
			t.Errorf("%d instructions aren't read as they were: %d", len(list), e)
		}
	}
}

// P2.3: any bytes that are read are printed as they were.
func TestReadIsPrinted(t *testing.T) {
	for _, n := range []int{8, 16, 24, 800, 32760, 32768} {
		s := manyBytes(n)
		list, e := Read(s)
		if e != api.OK {
			t.Fatalf("Read of %d bytes: %d", n, e)
		}
		if back, e := Print(list); e != api.OK || back != s {
			t.Errorf("%d bytes aren't printed as they were: %d", n, e)
		}
	}
}

// Rule 4: what is handed in stays as it is, its spare room too, and each answer is new memory.
func TestNothingShared(t *testing.T) {
	room := many(6)
	before := slices.Clone(room)
	list := room[1:4]
	s, e := Print(list)
	if e != api.OK || !Same(list, list) || !slices.Equal(room, before) {
		t.Fatalf("%d %+v", e, room)
	}
	first, _ := Read(s)
	second, _ := Read(s)
	first[0].K++
	if !slices.Equal(second, before[1:4]) {
		t.Error("two answers share memory")
	}
	if again, _ := Read(s); !slices.Equal(again, before[1:4]) {
		t.Error("an answer hangs on what was done to an earlier one")
	}
}
