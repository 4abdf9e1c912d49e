package word

import (
	"math"
	"testing"

	"tamis/api"
)

const top = math.MaxUint32

// corners are words at which carries, signs and moves go wrong first; TestAsk needs them in order.
var corners = []uint32{0, 1, 2, 3, 5, 7, 30, 31, 32, 33, 63, 64, 65, 0xff, 0x100, 0xffff, 0x10000, 0x55555555, 0x7ffffffe, 0x7fffffff, 0x80000000, 0x80000001, 0xaaaaaaaa, 0xfffffffe, top}

type aluCase struct {
	op   int
	a, b uint32
	want uint32
	ok   bool
}

func checkAlu(t *testing.T, cases []aluCase) {
	t.Helper()
	for _, c := range cases {
		if n, ok := Alu(c.op, c.a, c.b); n != c.want || ok != c.ok {
			t.Errorf("Alu(%#x, %#x, %#x): %#x %v, not %#x %v", c.op, c.a, c.b, n, ok, c.want, c.ok)
		}
	}
}

// P1.1: sums, differences and products are modulo 2^32; noughts come in where words are moved.
func TestAluOrdinary(t *testing.T) {
	checkAlu(t, []aluCase{
		{api.AAdd, 2, 3, 5, true},
		{api.AAdd, top, 1, 0, true},
		{api.AAdd, top, top, top - 1, true},
		{api.ASub, 5, 3, 2, true},
		{api.ASub, 3, 5, top - 1, true},
		{api.ASub, 0, top, 1, true},
		{api.AMul, 6, 7, 42, true},
		{api.AMul, 1 << 16, 1 << 16, 0, true},
		{api.AMul, top, top, 1, true},
		{api.AOr, 0xf0f0, 0x00ff, 0xf0ff, true},
		{api.AAnd, 0xf0f0, 0x00ff, 0x00f0, true},
		{api.AXor, 0xf0f0, 0x00ff, 0xf00f, true},
		{api.AXor, top, top, 0, true},
		{api.ANeg, 1, 0, top, true},
		{api.ANeg, 0, 0, 0, true},
		{api.ANeg, 1 << 31, 0, 1 << 31, true},
		{api.ANeg, top, 9, 1, true},
	})
}

// P1.1: a division is of words that count from 0 on, rounded down, and never by 0.
func TestAluDivision(t *testing.T) {
	checkAlu(t, []aluCase{
		{api.ADiv, 7, 2, 3, true},
		{api.ADiv, 6, 7, 0, true},
		{api.ADiv, 0, 7, 0, true},
		{api.ADiv, top, 1, top, true},
		{api.ADiv, top, 2, 1<<31 - 1, true},
		{api.ADiv, top, top, 1, true},
		{api.ADiv, 1 << 31, top, 0, true},
		{api.ADiv, 0, 0, 0, false},
		{api.ADiv, 7, 0, 0, false},
		{api.ADiv, top, 0, 0, false},
	})
}

// P1.1: words are moved by b modulo 32.
func TestAluMoves(t *testing.T) {
	checkAlu(t, []aluCase{
		{api.ALsh, 3, 0, 3, true},
		{api.ALsh, 3, 1, 6, true},
		{api.ALsh, 3, 31, 1 << 31, true},
		{api.ALsh, 3, 32, 3, true},
		{api.ALsh, 3, 33, 6, true},
		{api.ALsh, 3, 63, 1 << 31, true},
		{api.ALsh, 3, 64, 3, true},
		{api.ALsh, 3, 256, 3, true},
		{api.ALsh, 3, 1 << 31, 3, true},
		{api.ALsh, 3, top, 1 << 31, true},
		{api.ARsh, top, 0, top, true},
		{api.ARsh, top, 1, 1<<31 - 1, true},
		{api.ARsh, top, 31, 1, true},
		{api.ARsh, top, 32, top, true},
		{api.ARsh, top, 33, 1<<31 - 1, true},
		{api.ARsh, top, 64, top, true},
		{api.ARsh, top, 256, top, true},
		{api.ARsh, 1 << 31, top, 1, true},
	})
}

// bigAlu reckons with 64 bits and multiplications alone, so that it shares no way with Alu.
func bigAlu(op int, a, b uint64) uint64 {
	power := uint64(1)
	for range b % 32 {
		power *= 2
	}
	switch op {
	case api.AAdd:
		return (a + b) % (1 << 32)
	case api.ASub:
		return (1<<32 + a - b) % (1 << 32)
	case api.AMul:
		return a * b % (1 << 32)
	case api.ADiv:
		return a / b
	case api.ALsh:
		return a * power % (1 << 32)
	case api.ARsh:
		return a / power
	case api.ANeg:
		return (1<<32 - a) % (1 << 32)
	}
	return bitwise(op, a, b)
}

func bitwise(op int, a, b uint64) uint64 {
	var n uint64
	for i, place := 0, uint64(1); i < 32; i, place = i+1, place*2 {
		ones := a/place%2 + b/place%2
		if ones == 2 && op != api.AXor || ones == 1 && op != api.AAnd {
			n += place
		}
	}
	return n
}

// P1.1, at all pairs of corners.
func TestAluCorners(t *testing.T) {
	ops := []int{api.AAdd, api.ASub, api.AMul, api.ADiv, api.AOr, api.AAnd, api.ALsh, api.ARsh, api.ANeg, api.AXor}
	for _, op := range ops {
		for _, a := range corners {
			for _, b := range corners {
				if op == api.ADiv && b == 0 {
					continue
				}
				want := bigAlu(op, uint64(a), uint64(b))
				checkAlu(t, []aluCase{{op, a, b, uint32(want), true}})
			}
		}
	}
}

// P1.1: an op that is none, near those that are one, and far off.
func TestAluNoOp(t *testing.T) {
	for op := -0x200; op <= 0x400; op++ {
		known := op >= 0 && op <= api.ANeg && op%0x10 == 0 || op == api.AXor
		n, ok := Alu(op, 9, 3)
		if ok != known || !ok && n != 0 {
			t.Errorf("Alu(%#x, 9, 3): %#x %v", op, n, ok)
		}
	}
	for _, op := range []int{math.MinInt, math.MaxInt, 1 << 32, 1<<32 + api.AXor, api.OpAlu + api.AAdd, api.AAdd | api.SrcX} {
		checkAlu(t, []aluCase{{op, 9, 3, 0, false}})
	}
}

// P1.1: what is asked, of words that count from 0 on.
func TestAsk(t *testing.T) {
	for i, a := range corners {
		for j, b := range corners {
			if Ask(api.CEq, a, b) != (i == j) || Ask(api.CGt, a, b) != (i > j) || Ask(api.CGe, a, b) != (i >= j) {
				t.Errorf("%#x and %#x", a, b)
			}
			if Ask(api.CSet, a, b) != (bitwise(api.AAnd, uint64(a), uint64(b)) > 0) {
				t.Errorf("CSet of %#x and %#x", a, b)
			}
		}
	}
	if Ask(api.CSet, 6, 8) || !Ask(api.CSet, 6, 12) || !Ask(api.CSet, 1<<31, top) || Ask(api.CSet, top, 0) {
		t.Error("CSet")
	}
}

// P1.1: nothing is so by an op that is none, even where all four are.
func TestAskNoOp(t *testing.T) {
	for op := -0x200; op <= 0x400; op++ {
		known := op == api.CEq || op == api.CGe || op == api.CSet
		if Ask(op, 3, 3) != known {
			t.Errorf("Ask(%#x, 3, 3)", op)
		}
		known = op == api.CGt || op == api.CGe || op == api.CSet
		if Ask(op, 7, 3) != known {
			t.Errorf("Ask(%#x, 7, 3)", op)
		}
	}
	for _, op := range []int{math.MinInt, math.MaxInt, 1<<32 + api.CEq, api.CEq | api.SrcX} {
		if Ask(op, 3, 3) || Ask(op, 7, 3) {
			t.Errorf("Ask(%#x)", op)
		}
	}
}

// P1.2: a number is its higher word times 2^32 and its lower one.
func TestPairs(t *testing.T) {
	const n = 0x0123456789abcdef
	if Lo(n) != 0x89abcdef || Hi(n) != 0x01234567 || Join(0x89abcdef, 0x01234567) != n {
		t.Errorf("%#x %#x %#x", Lo(n), Hi(n), Join(0x89abcdef, 0x01234567))
	}
	for _, lo := range corners {
		for _, hi := range corners {
			n := Join(lo, hi)
			if n != uint64(hi)*(1<<32)+uint64(lo) || Lo(n) != lo || Hi(n) != hi {
				t.Errorf("%#x and %#x: %#x, %#x and %#x", lo, hi, n, Lo(n), Hi(n))
			}
		}
	}
}

// P1.2: a bit is 1 or not; below 0 and above 63 there is none.
func TestBit(t *testing.T) {
	const n = 1<<63 | 1<<32 | 1<<31 | 1
	for i := -130; i <= 130; i++ {
		inside := i >= 0 && i <= 63
		if Bit(n, i) != (i == 0 || i == 31 || i == 32 || i == 63) {
			t.Errorf("Bit(%#x, %d)", uint64(n), i)
		}
		if Bit(math.MaxUint64, i) != inside || Bit(0, i) {
			t.Errorf("Bit of all ones, of none, %d", i)
		}
	}
	for _, i := range []int{math.MinInt, math.MinInt + 1, math.MinInt32, 1 << 32, math.MaxInt32, math.MaxInt} {
		if Bit(math.MaxUint64, i) {
			t.Errorf("Bit %d", i)
		}
	}
}

// P1.2: how many bits are 1, as Bit tells each of them.
func TestOnes(t *testing.T) {
	for i, c := range []struct {
		n    uint64
		want int
	}{{0, 0}, {1, 1}, {1 << 63, 1}, {1<<63 | 1<<31, 2}, {0xff00, 8}, {0x5555555555555555, 32}, {math.MaxUint64 - 1, 63}, {math.MaxUint64, 64}} {
		if n := Ones(c.n); n != c.want {
			t.Error(i, n)
		}
	}
	for _, lo := range corners {
		for _, hi := range corners {
			n, want := Join(lo, hi), 0
			for i := range 64 {
				if Bit(n, i) {
					want++
				}
			}
			if Ones(n) != want {
				t.Errorf("Ones(%#x): %d, not %d", n, Ones(n), want)
			}
		}
	}
}

// slowSpan sets one bit after the other.
func slowSpan(lo, hi int) uint64 {
	n, place := uint64(0), uint64(1)
	for i := 0; i < 64; i++ {
		if lo <= i && i <= hi {
			n += place
		}
		place *= 2
	}
	return n
}

// P1.2: the bits from lo to hi, of those there are; none, if lo is above hi.
func TestSpan(t *testing.T) {
	for i, c := range []struct {
		lo, hi int
		want   uint64
	}{{0, 0, 1}, {0, 31, top}, {8, 15, 0xff00}, {63, 63, 1 << 63}, {31, 32, 3 << 31}, {0, 63, math.MaxUint64}, {5, 4, 0}, {63, 0, 0}, {-1, 2, 7}, {62, 64, 3 << 62}, {-1, 64, math.MaxUint64}, {-3, -1, 0}, {64, 70, 0}, {70, 64, 0}, {-1, -3, 0}, {64, -1, 0}} {
		if n := Span(c.lo, c.hi); n != c.want {
			t.Errorf("%d: %#x", i, n)
		}
	}
	for lo := -70; lo <= 135; lo++ {
		for hi := -70; hi <= 135; hi++ {
			if n := Span(lo, hi); n != slowSpan(lo, hi) {
				t.Errorf("Span(%d, %d): %#x", lo, hi, n)
			}
		}
	}
	ends := []int{math.MinInt, math.MinInt + 1, -1 << 32, -1, 0, 1, 31, 32, 62, 63, 64, 1 << 32, math.MaxInt - 1, math.MaxInt}
	for _, lo := range ends {
		for _, hi := range ends {
			if n := Span(lo, hi); n != slowSpan(lo, hi) {
				t.Errorf("Span(%d, %d): %#x", lo, hi, n)
			}
		}
	}
}
