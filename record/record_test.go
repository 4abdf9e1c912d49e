package record

import (
	"math"
	"strings"
	"testing"

	"tamis/api"
)

// A layout says what a field is, written out by hand.
type layout struct {
	f           int
	name        string
	width       int
	place, last int // its lower word, and its higher one (the same, if it has one word)
}

var layouts = []layout{
	{0, "nr", 32, 0, 0},
	{1, "arch", 32, 1, 1},
	{2, "ip", 64, 2, 3},
	{3, "arg0", 64, 4, 5},
	{4, "arg1", 64, 6, 7},
	{5, "arg2", 64, 8, 9},
	{6, "arg3", 64, 10, 11},
	{7, "arg4", 64, 12, 13},
	{8, "arg5", 64, 14, 15},
}

// none are numbers that no field has.
var none = []int{-1, 9, -2, 10, 15, 16, 64, 1 << 32, -1 << 32, math.MinInt32, math.MaxInt32, math.MinInt, math.MinInt + 1, math.MaxInt - 1, math.MaxInt}

// full is a record whose bytes all differ, none of them 0.
func full() api.Record {
	var r api.Record
	for at := range r {
		b := uint32(4*at + 1)
		r[at] = b | (b+1)<<8 | (b+2)<<16 | (b+0x80)<<24
	}
	return r
}

// records are those that are tried where any one will do.
func records() []api.Record {
	var ones api.Record
	for at := range ones {
		ones[at] = math.MaxUint32
	}
	out := []api.Record{{}, full(), ones}
	for at := range ones {
		var one api.Record
		one[at] = 0x80000001
		out = append(out, one)
	}
	return out
}

// P3.1: the word at / 4, at each multiple of 4 below 64, and nothing elsewhere.
func TestLoad(t *testing.T) {
	for _, r := range records() {
		for at := uint32(0); at < 300; at++ {
			want, wantOK := uint32(0), at%4 == 0 && at < 64
			if wantOK {
				want = r[at/4]
			}
			if n, ok := Load(r, at); n != want || ok != wantOK {
				t.Errorf("Load(%x, %d) = %x, %v", r, at, n, ok)
			}
		}
	}
	for _, at := range []uint32{1 << 8, 1 << 16, 1<<31 - 1, 1 << 31, 1<<31 + 4, 1<<32 - 64, 1<<32 - 60, 1<<32 - 4, 1<<32 - 1} {
		if n, ok := Load(full(), at); n != 0 || ok {
			t.Errorf("Load(full, %d) = %x, %v", at, n, ok)
		}
	}
}

// P3.1: words 4 and 5 are 1 and 2: arg0 is 2^33 and 1.
func TestFieldExample(t *testing.T) {
	if n, ok := Field(api.Record{4: 1, 5: 2}, api.FArg0); n != 1<<33+1 || !ok {
		t.Error(n, ok)
	}
}

// P3.1: a field is its word, or its lower word and 2^32 times its higher one, of no others.
func TestField(t *testing.T) {
	for _, r := range records() {
		for _, l := range layouts {
			want := uint64(r[l.place])
			if l.width == 64 {
				want += uint64(r[l.last]) * (1 << 32)
			}
			if n, ok := Field(r, l.f); n != want || !ok {
				t.Errorf("Field(%x, %d) = %x, %v; want %x", r, l.f, n, ok, want)
			}
		}
	}
	for _, f := range none {
		if n, ok := Field(full(), f); n != 0 || ok {
			t.Errorf("Field(full, %d) = %x, %v", f, n, ok)
		}
	}
}

var numbers = []uint64{0, 1, 0x12345678, 1<<31 - 1, 1 << 31, 1<<32 - 1, 1 << 32, 1<<32 + 1, 0x123456789abcdef0, 1 << 63, math.MaxUint64 - 1, math.MaxUint64}

// P3.1: the field's words are those of the number, all others as they were; what a field of 32 bits has no room for is refused.
func TestWith(t *testing.T) {
	for _, r := range records() {
		for _, l := range layouts {
			for _, v := range numbers {
				want, wantOK := r, true
				if l.width == 64 {
					want[l.place], want[l.last] = uint32(v&0xffffffff), uint32(v/(1<<32))
				} else if v < 1<<32 {
					want[l.place] = uint32(v)
				} else {
					want, wantOK = api.Record{}, false
				}
				if q, ok := With(r, l.f, v); q != want || ok != wantOK {
					t.Errorf("With(%x, %d, %x) = %x, %v", r, l.f, v, q, ok)
				}
			}
		}
	}
}

// P3.1: With of no field is the zero record, whatever the number.
func TestWithOfNone(t *testing.T) {
	for _, f := range none {
		for _, v := range numbers {
			if q, ok := With(full(), f, v); q != (api.Record{}) || ok {
				t.Errorf("With(full, %d, %x) = %x, %v", f, v, q, ok)
			}
		}
	}
}

// P3.1: what With puts, Field tells; the other fields stay.
func TestWithAndField(t *testing.T) {
	for _, l := range layouts {
		for _, v := range numbers {
			q, ok := With(full(), l.f, v)
			if !ok {
				continue
			}
			for _, other := range layouts {
				want, _ := Field(full(), other.f)
				if other.f == l.f {
					want = v
				}
				if n, ok := Field(q, other.f); n != want || !ok {
					t.Errorf("field %d of With(full, %d, %x) = %x, %v", other.f, l.f, v, n, ok)
				}
			}
		}
	}
}

// Rule 4: a record that is handed over stays as it was.
func TestRecordStays(t *testing.T) {
	r := full()
	for _, l := range layouts {
		q, _ := With(r, l.f, 0)
		q[0], q[15] = 7, 7
		Field(r, l.f)
	}
	Load(r, 0)
	s := Print(r)
	if r != full() {
		t.Errorf("it became %x", r)
	}
	r[0] = 0
	if s != Print(full()) {
		t.Error("what was printed follows the record")
	}
}

// P3.1: the width and the place of each field, and those of none.
func TestWidthAndPlace(t *testing.T) {
	for _, l := range layouts {
		if n := Width(l.f); n != l.width {
			t.Errorf("Width(%d) = %d", l.f, n)
		}
		if n := Place(l.f); n != l.place {
			t.Errorf("Place(%d) = %d", l.f, n)
		}
	}
	for _, f := range none {
		if n := Width(f); n != 0 {
			t.Errorf("Width(%d) = %d", f, n)
		}
		if n := Place(f); n != -1 {
			t.Errorf("Place(%d) = %d", f, n)
		}
	}
}

// P3.1: the field of each of the 16 words; a field's one word isn't its higher one.
func TestOf(t *testing.T) {
	seen := 0
	for _, l := range layouts {
		if f, high := Of(l.place); f != l.f || high {
			t.Errorf("Of(%d) = %d, %v", l.place, f, high)
		}
		seen++
		if l.last == l.place {
			continue
		}
		if f, high := Of(l.last); f != l.f || !high {
			t.Errorf("Of(%d) = %d, %v", l.last, f, high)
		}
		seen++
	}
	if seen != api.Words {
		t.Errorf("%d words were asked of", seen)
	}
	for _, w := range []int{-1, 16, -2, 17, 18, 1 << 32, -1 << 32, math.MinInt32, math.MaxInt32, math.MinInt, math.MinInt + 1, math.MaxInt - 1, math.MaxInt} {
		if f, high := Of(w); f != -1 || high {
			t.Errorf("Of(%d) = %d, %v", w, f, high)
		}
	}
}

// P3.2: the names of the fields, there and back; none of no field.
func TestNameAndFind(t *testing.T) {
	for _, l := range layouts {
		if s := Name(l.f); s != l.name {
			t.Errorf("Name(%d) = %q", l.f, s)
		}
		if f, ok := Find(l.name); f != l.f || !ok {
			t.Errorf("Find(%q) = %d, %v", l.name, f, ok)
		}
	}
	for _, f := range none {
		if s := Name(f); s != "" {
			t.Errorf("Name(%d) = %q", f, s)
		}
	}
}

// P3.2: texts that are no field's name are not found: the empty one, and ones that differ from a name in a letter or by one.
func TestFindOfNone(t *testing.T) {
	texts := []string{"", " ", "\x00", "n", "arg", "arg6", "arg9", "arg-1", "arg00", "arg10", "args", "IP", "Nr", "ARCH", "Arg0", "NR", "sp", "arc", "arch64", "nr\x00", "0", strings.Repeat("nr", 1000)}
	for _, l := range layouts {
		texts = append(texts, l.name+" ", " "+l.name, l.name+l.name, l.name+"x", "x"+l.name, l.name[1:], l.name[:len(l.name)-1], strings.ToUpper(l.name))
		for at := range l.name {
			texts = append(texts, l.name[:at]+"z"+l.name[at+1:], l.name[:at]+string(rune(l.name[at]^0x20))+l.name[at+1:])
		}
	}
	for _, s := range texts {
		if f, ok := Find(s); f != 0 || ok {
			t.Errorf("Find(%q) = %d, %v", s, f, ok)
		}
	}
}

// P3.2: four bytes of each word, the lowest one first.
func TestPrint(t *testing.T) {
	if s := Print(api.Record{}); s != strings.Repeat("\x00", 64) {
		t.Errorf("%x", s)
	}
	r := api.Record{0: 0x04030201, 1: 0xff, 2: 0xff00, 3: 0xff0000, 4: 0xff000000, 15: 0x80c0e0f0}
	want := "\x01\x02\x03\x04" + "\xff\x00\x00\x00" + "\x00\xff\x00\x00" + "\x00\x00\xff\x00" + "\x00\x00\x00\xff" +
		strings.Repeat("\x00", 40) + "\xf0\xe0\xc0\x80"
	if s := Print(r); s != want {
		t.Errorf("%x", s)
	}
	for _, r := range records() {
		s := Print(r)
		if len(s) != 64 {
			t.Fatalf("%d bytes", len(s))
		}
		for at := range len(s) {
			if s[at] != byte(r[at/4]>>(8*(at%4))) {
				t.Errorf("byte %d of %x is %x", at, r, s[at])
			}
		}
	}
}

// P3.2: what is printed is read as it was, and each byte stands where it should.
func TestRead(t *testing.T) {
	for _, r := range records() {
		if q, e := Read(Print(r)); q != r || e != api.OK {
			t.Errorf("Read(Print(%x)) = %x, %d", r, q, e)
		}
	}
	for at := range 64 {
		for b := range 256 {
			s := []byte(strings.Repeat("\x00", 64))
			s[at] = byte(b)
			var want api.Record
			want[at/4] = uint32(b) << (8 * (at % 4))
			if q, e := Read(string(s)); q != want || e != api.OK {
				t.Fatalf("byte %d is %d: %x, %d", at, b, q, e)
			}
		}
	}
}

// P3.2: fewer bytes than 64 are too few, more are too many; the record beside is zero.
func TestReadLengths(t *testing.T) {
	s := strings.Repeat(Print(full()), 5)
	for n := range len(s) {
		want, wantE := api.Record{}, api.OK
		switch {
		case n < 64:
			wantE = api.ErrShort
		case n > 64:
			wantE = api.ErrLong
		default:
			want = full()
		}
		if q, e := Read(s[:n]); q != want || e != wantE {
			t.Errorf("%d bytes: %x, %d", n, q, e)
		}
	}
	for _, n := range []int{1 << 16, 1<<16 + 64, 1 << 20} {
		if q, e := Read(strings.Repeat("x", n)); q != (api.Record{}) || e != api.ErrLong {
			t.Errorf("%d bytes: %x, %d", n, q, e)
		}
	}
}
