package verify

import (
	"math"
	"slices"
	"testing"

	"tamis/api"
)

// The instructions that the tests are made of, written out by hand.
var (
	ret  = api.Instr{Code: 0x06, K: 7}
	reta = api.Instr{Code: 0x16}
	tax  = api.Instr{Code: 0x07}
	none = api.Instr{Code: 0x94, K: 1}
	zero = api.Instr{Code: 0x34}
)

func ldm(k uint32) api.Instr       { return api.Instr{Code: 0x60, K: k} }
func ldxm(k uint32) api.Instr      { return api.Instr{Code: 0x61, K: k} }
func st(k uint32) api.Instr        { return api.Instr{Code: 0x02, K: k} }
func stx(k uint32) api.Instr       { return api.Instr{Code: 0x03, K: k} }
func ja(k uint32) api.Instr        { return api.Instr{Code: 0x05, K: k} }
func jeq(jt, jf uint8) api.Instr   { return api.Instr{Code: 0x15, Jt: jt, Jf: jf, K: 1} }
func jsetx(jt, jf uint8) api.Instr { return api.Instr{Code: 0x4d, Jt: jt, Jf: jf} }

func program(list ...api.Instr) []api.Instr { return list }

// many is n instructions of one kind.
func many(i api.Instr, n int) []api.Instr { return slices.Repeat([]api.Instr{i}, n) }

// jifs are the codes of all Jif.
var jifs = []uint16{0x15, 0x25, 0x35, 0x45, 0x1d, 0x2d, 0x3d, 0x4d}

// there are all codes that there are, as the chapter of codes lists them.
var there = []uint16{
	0x20, 0x80, 0x00, 0x60, 0x01, 0x61, 0x81, 0x02, 0x03,
	0x04, 0x14, 0x24, 0x34, 0x44, 0x54, 0x64, 0x74, 0xa4,
	0x0c, 0x1c, 0x2c, 0x3c, 0x4c, 0x5c, 0x6c, 0x7c, 0xac, 0x84,
	0x05, 0x15, 0x25, 0x35, 0x45, 0x1d, 0x2d, 0x3d, 0x4d,
	0x06, 0x16, 0x07, 0x87,
}

// words are numbers that are tried as K: the edges of each rule, and far ones.
var words = []uint32{0, 1, 2, 3, 4, 5, 8, 14, 15, 16, 17, 30, 31, 32, 33, 59, 60, 61, 63, 64, 68, 255, 256, 4095, 4096, 65535, 65536, 1 << 31, math.MaxUint32 - 5, math.MaxUint32 - 3, math.MaxUint32 - 2, math.MaxUint32 - 1, math.MaxUint32}

// alone is what is wrong with one alone, by the chapter's words, reckoned in 64 bits.
func alone(i api.Instr, at, n int) api.Errno {
	k := int64(i.K)
	behind := int64(at) + 1
	switch {
	case !slices.Contains(there, i.Code):
		return api.ErrCode
	case i.Code == 0x20 && (k%4 != 0 || k > 60):
		return api.ErrLoad
	case slices.Contains([]uint16{0x60, 0x61, 0x02, 0x03}, i.Code) && k > 15:
		return api.ErrWord
	case i.Code == 0x34 && k == 0:
		return api.ErrZero
	case (i.Code == 0x64 || i.Code == 0x74) && k > 31:
		return api.ErrShift
	case i.Code == 0x05 && behind+k >= int64(n):
		return api.ErrJump
	case slices.Contains(jifs, i.Code) && (behind+int64(i.Jt) >= int64(n) || behind+int64(i.Jf) >= int64(n)):
		return api.ErrJump
	}
	return api.OK
}

// checkAlone puts an instruction at the first place of a program whose other three are right, and asks for what is wrong with it.
func checkAlone(t *testing.T, i api.Instr, want api.Errno) {
	t.Helper()
	list := program(i, st(0), tax, ret)
	if e := Local(list, 0); e != want {
		t.Errorf("Local of %+v: %d, not %d", i, e, want)
	}
}

// P6.1: no place below 0, none at len(list) and behind it, whatever stands there.
func TestLocalRange(t *testing.T) {
	for _, list := range [][]api.Instr{nil, {}, program(ret), program(none, zero, ja(9)), program(ret, none)[:1], many(ret, 4096), many(none, 5000)} {
		n := len(list)
		for _, at := range []int{-1, -2, n, n + 1, n + 4096, -n - 1, math.MinInt, math.MaxInt, math.MinInt32, math.MaxInt32, 1 << 32} {
			if at >= 0 && at < n {
				continue
			}
			if e := Local(list, at); e != api.ErrRange {
				t.Errorf("Local of %d at %d: %d", n, at, e)
			}
		}
	}
}

// P6.1: ErrCode of each of the codes that aren't there, whatever K is; of none that are.
func TestLocalCode(t *testing.T) {
	for c := range 1 << 16 {
		for _, k := range []uint32{0, 1, 4, 16, 32, 64, math.MaxUint32} {
			i := api.Instr{Code: uint16(c), K: k, Jt: 1, Jf: 1}
			if got := Local(program(i, tax, ret), 0) == api.ErrCode; got == slices.Contains(there, uint16(c)) {
				t.Fatalf("%+v: ErrCode is told: %v", i, got)
			}
		}
	}
}

// P6.1: an ld takes the 16 multiples of 4 below 64, and no other K.
func TestLocalLoad(t *testing.T) {
	for k := range uint32(300) {
		want := api.ErrLoad
		if k%4 == 0 && k < 64 {
			want = api.OK
		}
		checkAlone(t, api.Instr{Code: 0x20, K: k}, want)
	}
	for _, k := range []uint32{1 << 16, 1 << 31, 1<<31 + 4, math.MaxUint32 - 3, math.MaxUint32} {
		checkAlone(t, api.Instr{Code: 0x20, K: k}, api.ErrLoad)
	}
	for _, c := range []uint16{0x00, 0x01, 0x80, 0x81} {
		checkAlone(t, api.Instr{Code: c, K: 61}, api.OK)
		checkAlone(t, api.Instr{Code: c, K: math.MaxUint32}, api.OK)
	}
}

// P6.1: there are 16 scratch words.
func TestLocalWord(t *testing.T) {
	for _, c := range []uint16{0x60, 0x61, 0x02, 0x03} {
		for k := range uint32(16) {
			checkAlone(t, api.Instr{Code: c, K: k}, api.OK)
		}
		for _, k := range []uint32{16, 17, 31, 32, 64, 256, 1 << 16, 1 << 31, math.MaxUint32} {
			checkAlone(t, api.Instr{Code: c, K: k}, api.ErrWord)
		}
	}
}

// P6.1: no div by a K of 0; a divx may have any K, for it doesn't look at it; and so may what isn't a division.
func TestLocalZero(t *testing.T) {
	checkAlone(t, api.Instr{Code: 0x34, K: 0}, api.ErrZero)
	for _, k := range words {
		if k != 0 {
			checkAlone(t, api.Instr{Code: 0x34, K: k}, api.OK)
		}
		for _, c := range []uint16{0x3c, 0x04, 0x0c, 0x14, 0x1c, 0x24, 0x2c, 0x44, 0x4c, 0x54, 0x5c, 0xa4, 0xac, 0x84} {
			checkAlone(t, api.Instr{Code: c, K: k}, api.OK)
		}
	}
}

// P6.1: an lsh and an rsh go by less than 32 bits; lshx and rshx may have any K.
func TestLocalShift(t *testing.T) {
	for _, k := range words {
		want := api.OK
		if k > 31 {
			want = api.ErrShift
		}
		for _, c := range []uint16{0x64, 0x74} {
			checkAlone(t, api.Instr{Code: c, K: k}, want)
			checkAlone(t, api.Instr{Code: c + 8, K: k}, api.OK)
		}
	}
}

// P6.1: a ja may go to the last place, and no further, from any place; one of a great K doesn't come round to the front.
func TestLocalJa(t *testing.T) {
	for n := 1; n < 9; n++ {
		for at := range n {
			list := many(ret, n)
			for k := range uint32(12) {
				list[at] = ja(k)
				want := api.ErrJump
				if at+1+int(k) < n {
					want = api.OK
				}
				if e := Local(list, at); e != want {
					t.Errorf("ja %d at %d of %d: %d", k, at, n, e)
				}
			}
			for back := range uint32(12) {
				for _, k := range []uint32{math.MaxUint32 - back, 1<<31 - 6 + back, 1<<16 - 6 + back, 1<<8 + back} {
					list[at] = ja(k)
					if e := Local(list, at); e != api.ErrJump {
						t.Errorf("ja %d at %d of %d: %d", k, at, n, e)
					}
				}
			}
		}
	}
	long := many(ret, 4096)
	for _, c := range []struct {
		at   int
		k    uint32
		want api.Errno
	}{{0, 4094, api.OK}, {0, 4095, api.ErrJump}, {4000, 94, api.OK}, {4000, 95, api.ErrJump}, {4095, 0, api.ErrJump}, {4094, 0, api.OK}, {4094, math.MaxUint32 - 4094, api.ErrJump}, {4095, math.MaxUint32 - 4095, api.ErrJump}, {2000, math.MaxUint32 - 2000, api.ErrJump}, {2000, math.MaxUint32 - 1999, api.ErrJump}} {
		list := slices.Clone(long)
		list[c.at] = ja(c.k)
		if e := Local(list, c.at); e != c.want {
			t.Errorf("ja %d at %d of 4096: %d", c.k, c.at, e)
		}
	}
}

// P6.1: of each Jif both targets must be there; K is nothing to it, nor are Jt and Jf to a ja.
func TestLocalJif(t *testing.T) {
	for _, c := range jifs {
		for _, n := range []int{1, 2, 3, 128, 255, 256, 257, 300} {
			list := many(ret, n)
			last := n - 2 // how far it is from the first place to the last one
			for _, jt := range []int{0, 1, last - 1, last, last + 1, 127, 128, 254, 255} {
				for _, jf := range []int{0, 1, last - 1, last, last + 1, 127, 128, 254, 255} {
					if min(jt, jf) < 0 || max(jt, jf) > 255 {
						continue
					}
					want := api.OK
					if jt > last || jf > last {
						want = api.ErrJump
					}
					for _, k := range []uint32{0, math.MaxUint32} {
						list[0] = api.Instr{Code: c, Jt: uint8(jt), Jf: uint8(jf), K: k}
						if e := Local(list, 0); e != want {
							t.Errorf("%+v of %d: %d", list[0], n, e)
						}
					}
				}
			}
		}
	}
	checkAlone(t, api.Instr{Code: 0x05, K: 2, Jt: 255, Jf: 255}, api.OK)
	for _, i := range []api.Instr{ret, reta, tax, st(1), ldm(1), {Code: 0x20}, {Code: 0x04}, {Code: 0x87}} {
		i.Jt, i.Jf = 255, 255
		checkAlone(t, i, api.OK)
	}
}

// P6.1: with two things wrong it is the first of the chapter's order that is told. Whatever has a wrong code has nothing else that could be wrong.
func TestLocalOrder(t *testing.T) {
	for _, i := range []api.Instr{
		{Code: 0x94, K: 0},                      // a division of another kind, by 0
		{Code: 0x134, K: 0},                     // a div by its lower byte
		{Code: 0x120, K: 64},                    // an ld by its lower byte
		{Code: 0x28, K: 64},                     // an ld of half a word
		{Code: 0x40, K: 64},                     // an ld behind X
		{Code: 0x1002, K: 16},                   // an st by its lower byte
		{Code: 0x0a, K: 16},                     // an st with a bit that it hasn't
		{Code: 0x8064, K: 32},                   // an lsh by its lower byte
		{Code: 0x105, K: 99},                    // a ja by its lower byte
		{Code: 0x0d, K: 99},                     // a ja by X
		{Code: 0x215, Jt: 99, Jf: 99},           // a jeq by its lower byte
		{Code: 0x55, Jt: 99, Jf: 99, K: 0},      // a jump of another kind
		{Code: 0xffff, Jt: 255, Jf: 255, K: 16}, // nothing at all
	} {
		checkAlone(t, i, api.ErrCode)
	}
	checkAlone(t, jeq(99, 99), api.ErrJump)
	checkAlone(t, jsetx(99, 99), api.ErrJump)
}

// P6.1: each code with each K of words, at each place of a short program, is held against the chapter's words.
func TestLocalAll(t *testing.T) {
	for _, c := range there {
		for _, k := range words {
			for n := 1; n < 5; n++ {
				for at := range n {
					for jumps := range uint8(25) {
						list := many(ret, n)
						list[at] = api.Instr{Code: c, K: k, Jt: jumps / 5, Jf: jumps % 5}
						if e, want := Local(list, at), alone(list[at], at, n); e != want {
							t.Fatalf("%+v at %d of %d: %d, not %d", list[at], at, n, e, want)
						}
					}
				}
			}
		}
	}
}

// P6.1: Local looks at one place: what is wrong elsewhere, and how long the list is, is nothing to it.
func TestLocalAlone(t *testing.T) {
	list := program(none, zero, tax, ldm(0), ldm(16), ja(0), ja(0))
	for at, want := range []api.Errno{api.ErrCode, api.ErrZero, api.OK, api.OK, api.ErrWord, api.OK, api.ErrJump} {
		if e := Local(list, at); e != want {
			t.Errorf("at %d: %d", at, e)
		}
	}
	long := many(none, 5000)
	long[4998] = ja(0)
	long[4999] = tax
	for at, want := range map[int]api.Errno{0: api.ErrCode, 4096: api.ErrCode, 4997: api.ErrCode, 4998: api.OK, 4999: api.OK} {
		if e := Local(long, at); e != want {
			t.Errorf("of 5000 at %d: %d", at, e)
		}
	}
}

// checkCheck holds Check and Right of a list against what they should be.
func checkCheck(t *testing.T, name string, list []api.Instr, place int, want api.Errno) {
	t.Helper()
	if at, e := Check(list); at != place || e != want {
		t.Errorf("%s: Check is %d, %d, not %d, %d", name, at, e, place, want)
	}
	if got := Right(list); got != (want == api.OK) {
		t.Errorf("%s: Right is %v", name, got)
	}
}

// P6.1: ErrShort of no instruction, ErrLong of more than 4096, ahead of all else, at 0.
func TestCheckLength(t *testing.T) {
	checkCheck(t, "nil", nil, 0, api.ErrShort)
	checkCheck(t, "empty", []api.Instr{}, 0, api.ErrShort)
	checkCheck(t, "empty with spare room", program(ret, ret)[:0], 0, api.ErrShort)
	checkCheck(t, "1", many(ret, 1), 0, api.OK)
	checkCheck(t, "4095", many(ret, 4095), 0, api.OK)
	checkCheck(t, "4096", many(ret, 4096), 0, api.OK)
	checkCheck(t, "4097", many(ret, 4097), 0, api.ErrLong)
	checkCheck(t, "4097 of no code", many(none, 4097), 0, api.ErrLong)
	checkCheck(t, "4097 that return nothing", many(tax, 4097), 0, api.ErrLong)
	checkCheck(t, "100000", many(ret, 100000), 0, api.ErrLong)
	checkCheck(t, "4096 that return nothing", many(tax, 4096), 4095, api.ErrEnd)
	checkCheck(t, "4096 with a wrong last one", append(many(tax, 4095), none), 4095, api.ErrCode)
	checkCheck(t, "4096 with a word that isn't written", append(many(tax, 4094), ldm(3), ret), 4094, api.ErrWord)
	checkCheck(t, "4096 one after the other", append(many(tax, 4095), reta), 0, api.OK)
}

// P6.1: the first place with something wrong alone is told, and what, also where no way comes to; words that aren't written ahead of it are not.
func TestCheckAlone(t *testing.T) {
	for _, c := range []struct {
		bad  api.Instr
		want api.Errno
	}{{none, api.ErrCode}, {api.Instr{Code: 0x20, K: 62}, api.ErrLoad}, {st(16), api.ErrWord}, {ldxm(16), api.ErrWord}, {zero, api.ErrZero}, {api.Instr{Code: 0x74, K: 32}, api.ErrShift}, {ja(math.MaxUint32), api.ErrJump}, {jeq(0, 255), api.ErrJump}, {jsetx(255, 0), api.ErrJump}} {
		for n := 1; n < 7; n++ {
			for at := range n {
				list := append(many(tax, n-1), ret)
				list[at] = c.bad
				checkCheck(t, "one wrong place", list, at, c.want)
				for behind := at + 1; behind < n; behind++ {
					two := slices.Clone(list)
					two[behind] = none
					checkCheck(t, "two wrong places", two, at, c.want)
					two[behind] = zero
					checkCheck(t, "two wrong places", two, at, c.want)
				}
				checkCheck(t, "behind a ret", append(program(ret), list...), at+1, c.want)
				checkCheck(t, "ahead of no end", append(slices.Clone(list), tax), at, c.want)
				checkCheck(t, "behind a word that isn't written", append(program(ldm(0)), list...), at+1, c.want)
			}
		}
	}
}

// P6.1: the last one must return: ErrEnd at the last place, behind whatever is wrong alone, ahead of a word that isn't written.
func TestCheckEnd(t *testing.T) {
	for _, c := range there {
		last := api.Instr{Code: c, K: 4}
		want := api.ErrEnd
		switch {
		case c == 0x06 || c == 0x16:
			want = api.OK
		case c == 0x05 || slices.Contains(jifs, c):
			want = api.ErrJump // it can but go out of the program
		}
		checkEnd := func(name string, front ...api.Instr) {
			place := 0
			if want != api.OK {
				place = len(front)
			}
			checkCheck(t, name, append(slices.Clone(front), last), place, want)
		}
		checkEnd("alone")
		checkEnd("behind another", st(4))
		checkEnd("behind a ret", st(4), ret)
	}
	checkCheck(t, "a word ahead of the end", program(ldm(0), tax), 1, api.ErrEnd)
	checkCheck(t, "a word at the end", program(tax, ldxm(3)), 1, api.ErrEnd)
	checkCheck(t, "a word that isn't there at the end", program(tax, ldm(16)), 1, api.ErrWord)
	checkCheck(t, "something wrong ahead of the end", program(zero, tax), 0, api.ErrZero)
	checkCheck(t, "an end that no way comes to", program(ret, tax), 1, api.ErrEnd)
	checkCheck(t, "reta at the end", program(tax, reta), 0, api.OK)
}

// P6.1: the word of an ldm or ldxm must be written on every way to it.
func TestCheckWritten(t *testing.T) {
	for _, load := range []func(uint32) api.Instr{ldm, ldxm} {
		for _, store := range []func(uint32) api.Instr{st, stx} {
			for k := range uint32(16) {
				other := (k + 1) % 16
				l, s, o := load(k), store(k), store(other)
				checkCheck(t, "none", program(l, ret), 0, api.ErrWord)
				checkCheck(t, "none, behind another", program(tax, l, ret), 1, api.ErrWord)
				checkCheck(t, "ahead", program(s, l, ret), 0, api.OK)
				checkCheck(t, "long ahead", program(s, tax, o, tax, l, ret), 0, api.OK)
				checkCheck(t, "behind", program(l, s, ret), 0, api.ErrWord)
				checkCheck(t, "another word", program(o, l, ret), 1, api.ErrWord)
				checkCheck(t, "on the way that isn't so", program(jeq(1, 0), s, l, ret), 2, api.ErrWord)
				checkCheck(t, "on the way that is so", program(jeq(0, 1), s, l, ret), 2, api.ErrWord)
				checkCheck(t, "on both ways", program(jeq(0, 2), s, ja(1), s, l, ret), 0, api.OK)
				checkCheck(t, "on both ways, by X", program(jsetx(2, 0), s, ja(1), s, l, ret), 0, api.OK)
				checkCheck(t, "by st and by stx", program(jeq(0, 2), st(k), ja(1), stx(k), l, ret), 0, api.OK)
				checkCheck(t, "another word on one way", program(jeq(0, 2), s, ja(1), o, l, ret), 4, api.ErrWord)
				checkCheck(t, "ahead of both ways", program(s, jeq(1, 0), o, l, ret), 0, api.OK)
				checkCheck(t, "on neither way", program(jeq(0, 2), tax, ja(1), tax, l, ret), 4, api.ErrWord)
				checkCheck(t, "the other way returns", program(jeq(0, 1), ret, s, l, ret), 0, api.OK)
				checkCheck(t, "a ja goes past it", program(ja(1), s, l, ret), 2, api.ErrWord)
				checkCheck(t, "a ja behind it", program(s, ja(1), ret, l, ret), 0, api.OK)
				checkCheck(t, "a ja past the load", program(ja(1), l, ret), 0, api.OK)
				checkCheck(t, "behind a ret", program(ret, l, ret), 0, api.OK)
				checkCheck(t, "behind a reta", program(reta, l, ret), 0, api.OK)
				checkCheck(t, "behind a load that no way comes to", program(ja(1), l, l, ret), 2, api.ErrWord)
				checkCheck(t, "behind a store that no way comes to", program(ja(2), s, ja(0), l, ret), 3, api.ErrWord)
				checkCheck(t, "from where no way comes", program(s, ja(1), jeq(0, 0), l, ret), 0, api.OK)
				checkCheck(t, "both targets one", program(jeq(1, 1), s, l, ret), 2, api.ErrWord)
			}
		}
	}
}

// P6.1: ErrWord is told at the first such place.
func TestCheckFirstWord(t *testing.T) {
	checkCheck(t, "two", program(ldm(0), ldm(1), ret), 0, api.ErrWord)
	checkCheck(t, "the second of two", program(st(0), ldm(0), ldm(1), ldxm(2), ret), 2, api.ErrWord)
	checkCheck(t, "behind one that no way comes to", program(ja(1), ldm(5), ldxm(5), ldm(6), ret), 2, api.ErrWord)
	checkCheck(t, "the first place of two ways", program(jeq(2, 0), st(1), ret, ldm(1), ret), 3, api.ErrWord)
	list := program(st(0), tax, tax, tax, tax, tax, ret)
	for first := 1; first < 6; first++ {
		for behind := first; behind < 6; behind++ {
			two := slices.Clone(list)
			two[first], two[behind] = ldm(9), ldxm(8)
			checkCheck(t, "first of two", two, first, api.ErrWord)
		}
	}
}

// P6.1: the document's examples, as far as they are of this layer.
func TestExamples(t *testing.T) {
	ld := func(k uint32) api.Instr { return api.Instr{Code: 0x20, K: k} }
	checkCheck(t, "ldm 0, ret 0", program(ldm(0), api.Instr{Code: 0x06}), 0, api.ErrWord)
	checkCheck(t, "ret 7", program(ret), 0, api.OK)
	checkCheck(t, "example 2", program(ld(0), jeq(0, 1), ret, ret), 0, api.OK)
	checkCheck(t, "example 3", program(ld(20), jeq(0, 3), ld(16), api.Instr{Code: 0x25, K: 5, Jf: 1}, ret, ret), 0, api.OK)
}

func checkBits(t *testing.T, name string, list []api.Instr, want ...uint16) {
	t.Helper()
	if got := Written(list); !slices.Equal(got, want) {
		t.Errorf("%s: %x, not %x", name, got, want)
	}
}

// P6.2: the bits of each place, written out by hand.
func TestWritten(t *testing.T) {
	const all = 0xffff
	checkBits(t, "one", program(ret), 0)
	checkBits(t, "a store", program(st(0), ret), 0, 1)
	checkBits(t, "two stores", program(st(3), stx(15), ret), 0, 1<<3, 1<<3|1<<15)
	checkBits(t, "the same word again", program(st(3), stx(3), tax, ret), 0, 8, 8, 8)
	checkBits(t, "loads write nothing", program(ldm(4), ldxm(5), tax, ret), 0, 0, 0, 0)
	checkBits(t, "behind a ret", program(st(1), ret, st(2), ret), 0, 2, all, all)
	checkBits(t, "behind a reta", program(reta, tax, ret), 0, all, all)
	checkBits(t, "behind a ja", program(st(1), ja(1), st(2), ret), 0, 2, all, 2)
	checkBits(t, "ja 0", program(st(1), ja(0), ret), 0, 2, 2)
	checkBits(t, "st on one way", program(jeq(0, 1), st(1), st(2), ret), 0, 0, 0, 4)
	checkBits(t, "stx on the other way", program(jeq(1, 0), stx(1), stx(2), ret), 0, 0, 0, 4)
	checkBits(t, "both ways", program(st(0), jeq(0, 3), st(1), stx(2), ja(2), stx(2), st(7), ret), 0, 1, 1, 3, 7, 1, 5, 5)
	checkBits(t, "one way goes out", program(jeq(0, 1), ret, st(1), ret), 0, 0, 0, 2)
	checkBits(t, "both targets one", program(st(6), jeq(2, 2), ret, ret, ret), 0, 64, all, all, 64)
	checkBits(t, "from where no way comes to where one does", program(st(6), ja(1), ja(0), ret), 0, 64, all, 64)
	checkBits(t, "a jump far away", append(append(program(st(9), jeq(200, 255)), many(tax, 256)...), ret),
		append(append([]uint16{0, 1 << 9}, slices.Repeat([]uint16{all}, 200)...), slices.Repeat([]uint16{1 << 9}, 57)...)...)
	var list []api.Instr
	var want []uint16
	for w := range uint32(16) {
		list = append(list, st(w))
		want = append(want, 1<<w-1)
	}
	checkBits(t, "all sixteen", append(list, ret), append(want, all)...)
	var again []api.Instr
	for w := range uint32(16) {
		again = append(again, stx(w))
	}
	checkBits(t, "all sixteen by stx", append(again, ret), append(want, all)...)
}

// P6.2: nothing at all, if something is wrong with one alone, or the length may not be.
func TestWrittenNone(t *testing.T) {
	for at, list := range [][]api.Instr{nil, {}, program(ret)[:0], many(ret, 4097), many(tax, 5000)} {
		if got := Written(list); len(got) != 0 {
			t.Errorf("case %d: %d", at, len(got))
		}
	}
	for _, bad := range []api.Instr{none, {Code: 0x20, K: 1}, st(16), stx(16), ldm(16), ldxm(16), zero, {Code: 0x64, K: 32}, ja(99), ja(math.MaxUint32), jeq(0, 99), jeq(99, 0)} {
		for at := range 4 {
			list := program(st(0), tax, tax, ret)
			list[at] = bad
			checkBits(t, "something wrong alone", list)
			checkBits(t, "where no way comes to", append(program(ret), list...))
		}
	}
	if got := Written(many(ret, 4096)); len(got) != 4096 || got[0] != 0 || got[1] != 0xffff || got[4095] != 0xffff {
		t.Errorf("4096: %d", len(got))
	}
}

// P6.2: a program that is no filter for another reason has its bits all the same: no return at the end, or a word that isn't written.
func TestWrittenOfNoFilter(t *testing.T) {
	checkBits(t, "one that returns nothing", program(tax), 0)
	checkBits(t, "a store at the end", program(st(1), st(2)), 0, 2)
	checkBits(t, "two ways to no return", program(st(1), jeq(0, 1), stx(2), tax), 0, 2, 2, 2)
	checkBits(t, "an end that no way comes to", program(st(1), ret, stx(2)), 0, 2, 0xffff)
	checkBits(t, "a load at the end", program(st(1), ldm(2)), 0, 2)
	checkBits(t, "a word that isn't written", program(ldm(2), st(2), ldm(2), ret), 0, 0, 4, 4)
	if got := Written(many(st(5), 4096)); len(got) != 4096 || got[0] != 0 || got[4095] != 32 {
		t.Errorf("4096: %d", len(got))
	}
}

// follow goes all ways from a place on, one by one, and takes from each place's bits what isn't written on the way to it. It knows nothing of turns: each way is gone to its end.
func follow(list []api.Instr, at int, have uint16, bits []uint16, come []bool) {
	if at >= len(list) {
		return
	}
	come[at] = true
	bits[at] &= have
	i := list[at]
	switch c := i.Code; {
	case c == 0x06 || c == 0x16:
	case c == 0x05:
		follow(list, at+1+int(i.K), have, bits, come)
	case slices.Contains(jifs, c):
		follow(list, at+1+int(i.Jt), have, bits, come)
		follow(list, at+1+int(i.Jf), have, bits, come)
	case c == 0x02 || c == 0x03:
		follow(list, at+1, have|1<<i.K, bits, come)
	default:
		follow(list, at+1, have, bits, come)
	}
}

// judge is what the chapter's words say of a list: its bits, and what Check tells.
func judge(list []api.Instr) (bits []uint16, place int, want api.Errno) {
	n := len(list)
	for at, i := range list {
		if e := alone(i, at, n); e != api.OK {
			return nil, at, e
		}
	}
	bits, come := slices.Repeat([]uint16{0xffff}, n), make([]bool, n)
	follow(list, 0, 0, bits, come)
	if last := list[n-1].Code; last != 0x06 && last != 0x16 {
		return bits, n - 1, api.ErrEnd
	}
	for at, i := range list {
		if (i.Code == 0x60 || i.Code == 0x61) && come[at] && bits[at]>>i.K&1 == 0 {
			return bits, at, api.ErrWord
		}
	}
	return bits, 0, api.OK
}

func checkJudged(t *testing.T, list []api.Instr) api.Errno {
	t.Helper()
	bits, place, want := judge(list)
	if at, e := Check(list); at != place || e != want {
		t.Fatalf("%+v: Check is %d, %d, not %d, %d", list, at, e, place, want)
	}
	if Right(list) != (want == api.OK) {
		t.Fatalf("%+v: Right is not %v", list, want == api.OK)
	}
	if got := Written(list); !slices.Equal(got, bits) {
		t.Fatalf("%+v: Written is %x, not %x", list, got, bits)
	}
	return want
}

// P6.1, P6.2: all programs of up to five instructions out of thirteen are held against their ways, gone one by one.
func TestAllShort(t *testing.T) {
	few := []api.Instr{st(0), stx(1), ldm(0), ldxm(1), ja(0), ja(1), jeq(0, 1), jeq(1, 0), jsetx(2, 0), ret, reta, tax, zero}
	seen := make(map[api.Errno]int)
	for n, count := 1, len(few); n <= 5; n, count = n+1, count*len(few) {
		list := make([]api.Instr, n)
		for number := range count {
			for at := range list {
				list[at] = few[number%len(few)]
				number /= len(few)
			}
			seen[checkJudged(t, list)]++
		}
	}
	for _, e := range []api.Errno{api.OK, api.ErrZero, api.ErrJump, api.ErrEnd, api.ErrWord} {
		if seen[e] < 100 {
			t.Errorf("%d is seen %d times", e, seen[e])
		}
	}
}

// P6.1, P6.2: longer programs, of all words and farther jumps, by numbers that follow from one another.
func TestLonger(t *testing.T) {
	number := uint32(1)
	pick := func(n int) int {
		number = number*1664525 + 1013904223
		return int(number>>8) % n
	}
	seen := make(map[api.Errno]int)
	for range 100000 {
		n := 6 + pick(14)
		list := make([]api.Instr, n)
		words := 1 + pick(16)
		for at := range list {
			k, room := uint32(pick(words)), n-at-1
			list[at] = []api.Instr{st(k), st(k), stx(k), stx(k), ldm(k), ldxm(k), tax, ret}[pick(8)]
			if room > 0 && pick(3) == 0 {
				list[at] = []api.Instr{ja(uint32(pick(room))), jeq(uint8(pick(room)), uint8(pick(room))), jsetx(uint8(pick(room)), 0)}[pick(3)]
			}
		}
		if pick(5) != 0 {
			list[n-1] = ret
		}
		seen[checkJudged(t, list)]++
	}
	for _, e := range []api.Errno{api.OK, api.ErrEnd, api.ErrWord} {
		if seen[e] < 1000 {
			t.Errorf("%d is seen %d times", e, seen[e])
		}
	}
}

// Rule 1: a program with more ways than could be gone one by one is judged at once.
func TestManyWays(t *testing.T) {
	list := program(st(1))
	want := []uint16{0}
	for len(list) < 4093 {
		list = append(list, jeq(0, 1), stx(2))
		want = append(want, 2, 2)
	}
	list, want = append(list, ldm(1), ret), append(want, 2, 2)
	checkCheck(t, "many ways", list, 0, api.OK)
	checkBits(t, "many ways", list, want...)
	list[len(list)-2] = ldm(2)
	checkCheck(t, "many ways, and a word that isn't written on one", list, len(list)-2, api.ErrWord)
}

// Rule 4: what is handed in stays as it is, its spare room too, and each answer is new memory.
func TestNothingShared(t *testing.T) {
	room := program(none, st(3), jeq(0, 1), stx(4), ldm(3), ret, none, zero)
	before := slices.Clone(room)
	list := room[1:6]
	checkCheck(t, "a piece", list, 0, api.OK)
	first, second := Written(list), Written(list)
	for at := range list {
		Local(list, at)
	}
	if !slices.Equal(room, before) {
		t.Fatalf("the list became %+v", room)
	}
	want := slices.Clone(second)
	first = first[:cap(first)]
	for at := range first {
		first[at] = 0x5555
	}
	if !slices.Equal(second, want) || !slices.Equal(Written(list), want) {
		t.Error("two answers share memory")
	}
}
