package paths

import (
	"math"
	"math/big"
	"slices"
	"testing"

	"tamis/api"
	"tamis/asm"
	"tamis/prune"
	"tamis/verify"
)

const (
	top = math.MaxUint32
	// limit is 2^50, written out.
	limit uint64 = 1125899906842624
)

// The instructions that the tests are made of, written out by hand.
var (
	ret = api.Instr{Code: 0x06, K: 7}
	tax = api.Instr{Code: 0x07}
)

var jifs = []uint16{0x15, 0x25, 0x35, 0x45, 0x1d, 0x2d, 0x3d, 0x4d}

func of(c uint16, k uint32) api.Instr       { return api.Instr{Code: c, K: k} }
func ja(k uint32) api.Instr                 { return api.Instr{Code: 0x05, K: k} }
func jif(jt, jf uint8) api.Instr            { return api.Instr{Code: 0x15, Jt: jt, Jf: jf, K: 5} }
func program(list ...api.Instr) []api.Instr { return list }
func many(i api.Instr, n int) []api.Instr   { return slices.Repeat([]api.Instr{i}, n) }

// read is the filter of a text.
func read(t *testing.T, text string) []api.Instr {
	t.Helper()
	list, at, e := asm.Read(text)
	if e != api.OK || !verify.Right(list) {
		t.Fatalf("%q is no filter: %d at %d", text, e, at)
	}
	return list
}

// draw is numbers that look like any, the same ones at each run.
type draw uint64

func (d *draw) below(n int) int {
	*d = *d*6364136223846793005 + 1442695040888963407
	return int(uint64(*d) >> 33 % uint64(n))
}

// numbers is what is told of a filter.
type numbers struct {
	count, work, enough uint64
	from                []uint64
}

// told is what the four functions tell of a filter; they must leave it as it is.
func told(t *testing.T, list []api.Instr) numbers {
	t.Helper()
	was := slices.Clone(list)
	count, e1 := Count(list)
	work, e2 := Work(list)
	enough, e3 := Enough(list)
	from := From(list)
	if e1 != api.OK || e2 != api.OK || e3 != api.OK {
		t.Fatalf("of %d instructions: %d %d %d", len(list), e1, e2, e3)
	}
	if !slices.Equal(list, was) {
		t.Fatal("the list was changed")
	}
	return numbers{count, work, enough, from}
}

// checkNumbers holds what is told of a filter against what was found otherwise, and holds P10.2 of it.
func checkNumbers(t *testing.T, list []api.Instr, want numbers) {
	t.Helper()
	got := told(t, list)
	if got.count != want.count || got.work != want.work || got.enough != want.enough {
		t.Fatalf("of %d instructions: %d %d %d, not %d %d %d", len(list), got.count, got.work, got.enough, want.count, want.work, want.enough)
	}
	if len(got.from) != len(list) {
		t.Fatalf("From of %d instructions: %d places", len(list), len(got.from))
	}
	for at, n := range want.from {
		if got.from[at] != n {
			t.Fatalf("From of %d instructions at %d: %d, not %d", len(list), at, got.from[at], n)
		}
	}
	checkConsequences(t, list, got)
}

// checkConsequences holds P10.2 of a filter of which that is told.
func checkConsequences(t *testing.T, list []api.Instr, is numbers) {
	t.Helper()
	if is.work > is.enough {
		t.Fatalf("Work %d is above Enough %d", is.work, is.enough)
	}
	short, e := prune.Prune(list)
	if e != api.OK {
		t.Fatal(e)
	}
	left := told(t, short)
	if left.count > is.count || left.work > is.work || left.enough > is.enough {
		t.Fatalf("pruned: %d %d %d, before: %d %d %d", left.count, left.work, left.enough, is.count, is.work, is.enough)
	}
}

// noFilters is a program for each reason for which one is no filter; in most of them no way comes to what is wrong.
func noFilters() [][]api.Instr {
	return [][]api.Instr{
		nil, {},
		many(ret, 4097), many(ret, 1<<16),
		program(tax), program(ret, tax), program(ja(0), ret, tax), program(ret, jif(0, 0)), program(ja(0), ja(0)),
		program(of(0x60, 0), ret), program(of(0x61, 15), ret), program(jif(0, 1), of(0x02, 0), of(0x60, 0), ret), program(ja(1), of(0x03, 4), of(0x61, 4), ret),
		program(ja(0), ret, of(0x94, 0), ret), program(ja(0), ret, of(0x28, 0), ret), program(ja(0), ret, of(0x105, 0), ret),
		program(ret, of(0x20, 3), ret), program(ret, of(0x20, 64), ret),
		program(ret, of(0x02, 16), ret), program(ret, of(0x03, top), ret), program(ret, of(0x60, 16), ret), program(ret, of(0x61, 16), ret),
		program(ret, of(0x34, 0), ret),
		program(ret, of(0x64, 32), ret), program(ret, of(0x74, top), ret),
		program(ret, ja(1), ret), program(ret, ja(top), ret), program(ret, ja(top-1), ret),
		program(ret, jif(1, 0), ret), program(ret, jif(0, 1), ret), program(ret, jif(255, 255), ret),
	}
}

// P10.1: of what is no filter there are no numbers: 0 and ErrArg, and none.
func TestNoFilter(t *testing.T) {
	for n, bad := range noFilters() {
		for _, list := range [][]api.Instr{bad, slices.Concat(program(ja(0)), bad), slices.Concat(program(jif(0, 0)), bad)} {
			was := slices.Clone(list)
			if verify.Right(list) {
				t.Fatalf("%d is a filter", n)
			}
			for name, of := range map[string]func([]api.Instr) (uint64, api.Errno){"Count": Count, "Work": Work, "Enough": Enough} {
				if got, e := of(list); got != 0 || e != api.ErrArg {
					t.Errorf("%d: %s %d %d", n, name, got, e)
				}
			}
			if got := From(list); got != nil {
				t.Errorf("%d: From %v", n, got)
			}
			if !slices.Equal(list, was) {
				t.Errorf("%d was changed", n)
			}
		}
	}
}

// P10.1: the numbers of filters, found by hand.
func TestByHand(t *testing.T) {
	for text, want := range map[string]numbers{
		// the chapter's example
		"jeq 5 0 1\nret 1\nret 2\n": {2, 4, 6, []uint64{2, 1, 1}},
		// one instruction
		"ret 1\n": {1, 1, 1, []uint64{1}},
		"reta\n":  {1, 1, 1, []uint64{1}},
		// one way, with all instructions or some
		"ldi 1\ntax\nneg\nreta\n":            {1, 4, 4, []uint64{1, 1, 1, 1}},
		"ret 1\nret 2\n":                     {1, 1, 2, []uint64{1, 1}},
		"ja 1\nret 1\nret 2\n":               {1, 2, 3, []uint64{1, 1, 1}},
		"ja 0\nja 1\nret 1\nja 0\nret 2\n":   {1, 4, 5, []uint64{1, 1, 1, 1, 1}},
		"ld 0\nret 1\nldi 1\nldi 2\nret 3\n": {1, 2, 5, []uint64{1, 1, 1, 1, 1}},
		// both sides of a Jif go to one place
		"jeq 1 0 0\nret 1\n":                        {1, 2, 2, []uint64{1, 1}},
		"jgt 1 1 1\nret 2\nret 1\n":                 {1, 2, 3, []uint64{1, 1, 1}},
		"jeqx 0 0\njset 1 0 0\nret 1\n":             {1, 3, 3, []uint64{1, 1, 1}},
		"jeqx 1 1\ntax\njset 1 0 1\nret 1\nret 2\n": {2, 6, 10, []uint64{2, 2, 2, 1, 1}},
		// they go to one place by a Ja: that's two ways
		"jeq 1 0 1\nja 0\nret 1\n": {2, 5, 6, []uint64{2, 1, 1}},
		// a division by X is one instruction of a way, and ends none
		"divx\nret 1\n":                                  {1, 2, 2, []uint64{1, 1}},
		"ldi 6\ndivx\ndivx\nreta\n":                      {1, 4, 4, []uint64{1, 1, 1, 1}},
		"jeq 5 0 1\ndivx\njge 1 0 1\nret 1\nreta\n":      {4, 14, 20, []uint64{4, 2, 2, 1, 1}},
		"jge 5 0 1\nret 1\ndivx\njeq 2 1 0\ntax\nreta\n": {3, 11, 18, []uint64{3, 1, 2, 2, 1, 1}},
		// the ways of two Jifs: one in a side of the other, one behind the other
		"jeq 1 0 1\nret 1\njeq 2 0 1\nret 2\nret 3\n":       {3, 8, 15, []uint64{3, 1, 2, 1, 1}},
		"jeq 1 0 2\njeq 2 0 2\nret 1\nret 2\nret 3\n":       {3, 8, 15, []uint64{3, 2, 1, 1, 1}},
		"jeq 1 0 1\ntax\njeq 2 0 1\ntxa\nreta\n":            {4, 16, 20, []uint64{4, 2, 2, 1, 1}},
		"ld 0\njeq 1 0 1\nldi 5\njeq 2 0 1\nret 1\nret 2\n": {4, 18, 24, []uint64{4, 4, 2, 2, 1, 1}},
		// each of three Jifs goes to the next one or leaves one out
		"jeq 1 0 1\njeq 2 0 1\njeq 3 0 1\nret 1\nret 2\n": {5, 17, 25, []uint64{5, 3, 2, 1, 1}},
		// from places that no way comes to there are the ways on, all the same
		"ret 1\njeq 1 0 1\ntax\njeq 2 0 1\nret 3\nret 2\n":      {1, 1, 6, []uint64{1, 4, 2, 2, 1, 1}},
		"ja 2\njeq 1 0 1\nret 9\njeq 2 0 1\nret 3\nret 2\n":     {2, 6, 12, []uint64{2, 3, 1, 2, 1, 1}},
		"jeq 1 1 1\njeq 2 1 2\njeq 3 0 2\nret 1\ndivx\nret 2\n": {2, 6, 12, []uint64{2, 2, 2, 1, 1, 1}},
		// what isn't written may be loaded there
		"jeq 1 0 2\njeq 2 0 1\nret 1\nret 2\nldm 3\njeq 3 0 1\nldxm 0\nreta\n": {3, 8, 24, []uint64{3, 2, 1, 1, 2, 2, 1, 1}},
	} {
		checkNumbers(t, read(t, text), want)
	}
}

// P10.1: of each code that there is, an instruction of it goes on once, unless it returns, or is a Jif with two places behind.
func TestEachCode(t *testing.T) {
	for _, c := range []uint16{
		0x20, 0x80, 0x00, 0x01, 0x81, 0x02, 0x03, 0x07, 0x87, 0x84, 0x60, 0x61,
		0x04, 0x14, 0x24, 0x34, 0x44, 0x54, 0x64, 0x74, 0xa4, 0x0c, 0x1c, 0x2c, 0x3c, 0x4c, 0x5c, 0x6c, 0x7c, 0xac,
	} {
		list := program(of(0x02, 4), api.Instr{Code: c, Jt: 9, Jf: 200, K: 4}, jif(1, 0), tax, ret)
		checkNumbers(t, list, numbers{2, 9, 10, []uint64{2, 2, 2, 1, 1}})
	}
	for _, c := range []uint16{0x06, 0x16} {
		list := program(jif(1, 0), api.Instr{Code: c, Jt: 9, Jf: 200, K: 4}, jif(1, 0), tax, ret)
		checkNumbers(t, list, numbers{3, 9, 15, []uint64{3, 1, 2, 1, 1}})
	}
	for _, c := range jifs {
		list := program(tax, api.Instr{Code: c, Jt: 2, K: 4}, api.Instr{Code: c, Jf: 1, K: 4}, tax, ret)
		checkNumbers(t, list, numbers{3, 12, 15, []uint64{3, 3, 2, 1, 1}})
	}
	list := program(tax, api.Instr{Code: 0x05, Jt: 9, Jf: 200, K: 1}, jif(1, 0), tax, ret)
	checkNumbers(t, list, numbers{1, 4, 5, []uint64{1, 1, 2, 1, 1}})
}

// places is the places behind one, by the codes' numbers alone, of a list with nothing wrong.
func places(list []api.Instr, at int) []int {
	i := list[at]
	switch {
	case i.Code == 0x06 || i.Code == 0x16:
		return nil
	case i.Code == 0x05:
		return []int{at + int(i.K) + 1}
	case i.Code&7 == 5 && i.Jt == i.Jf:
		return []int{at + int(i.Jt) + 1}
	case i.Code&7 == 5:
		return []int{at + int(i.Jt) + 1, at + int(i.Jf) + 1}
	}
	return []int{at + 1}
}

// walk goes each way from a place on, one by one, and tells how many there are, and how many instructions they have, counting from the one that stands at a depth.
func walk(list []api.Instr, at, depth int, ways, instrs *uint64) {
	to := places(list, at)
	if len(to) == 0 {
		*ways++
		*instrs += uint64(depth)
	}
	for _, next := range to {
		walk(list, next, depth+1, ways, instrs)
	}
}

// walked is the numbers of a filter, all ways gone through one by one.
func walked(list []api.Instr) numbers {
	var out numbers
	walk(list, 0, 1, &out.count, &out.work)
	out.enough = out.count * uint64(len(list))
	for at := range list {
		ways, instrs := uint64(0), uint64(0)
		walk(list, at, 1, &ways, &instrs)
		out.from = append(out.from, ways)
	}
	return out
}

// each calls do with all lists of n of the instructions.
func each(of []api.Instr, n int, do func(list []api.Instr)) {
	list := make([]api.Instr, n)
	var fill func(at int)
	fill = func(at int) {
		if at == n {
			do(list)
			return
		}
		for _, i := range of {
			list[at] = i
			fill(at + 1)
		}
	}
	fill(0)
}

// P10.1 and P10.2: all filters of up to six instructions out of nine.
func TestAllSmall(t *testing.T) {
	filters := 0
	for n := 1; n <= 6; n++ {
		each(program(of(0x3c, 0), ret, ja(0), ja(1), ja(2), jif(0, 1), jif(2, 1), jif(0, 0), jif(2, 0)), n, func(list []api.Instr) {
			if verify.Right(list) {
				filters++
				checkNumbers(t, list, walked(list))
			}
		})
	}
	if filters < 10000 {
		t.Errorf("no more than %d filters", filters)
	}
}

// kinds is of how many instructions in a hundred a drawn filter's are Jas, Jifs and returns (beside the last one); and how many places its jumps leave out at most.
type kinds struct{ jas, jifs, rets, reach int }

// drawn is a filter of n instructions.
func drawn(d *draw, n int, of kinds) []api.Instr {
	list := make([]api.Instr, n)
	for at := range list {
		room := min(n-1-at, of.reach+1)
		switch k := d.below(100); {
		case room == 0 || k < of.rets:
			list[at] = api.Instr{Code: 0x06 + 0x10*uint16(d.below(2)), K: uint32(d.below(8))}
		case k < of.rets+of.jas:
			list[at] = ja(uint32(d.below(room)))
		case k < of.rets+of.jas+of.jifs:
			room = min(room, 256)
			list[at] = api.Instr{Code: jifs[d.below(8)], Jt: uint8(d.below(room)), Jf: uint8(d.below(room)), K: uint32(d.below(8))}
		default:
			list[at] = other(d)
		}
	}
	return loaded(d, list)
}

// other is an instruction that goes on to the next one; an ldm's word is left to loaded.
func other(d *draw) api.Instr {
	return []api.Instr{of(0x20, 4*uint32(d.below(16))), tax, of(0x87, 0), of(0x54, 3), of(0x02, uint32(d.below(3))), of(0x03, uint32(d.below(3))), of(0x3c, 0), of(0x60, 0), of(0x61, 0)}[d.below(9)]
}

// loaded has each load of a scratch word be of one that is written for sure, as there are some.
func loaded(d *draw, list []api.Instr) []api.Instr {
	for at, bits := range verify.Written(list) {
		if c := list[at].Code; c != 0x60 && c != 0x61 {
			continue
		}
		if bits == 0 {
			list[at] = tax
			continue
		}
		w := d.below(16)
		for bits>>w&1 == 0 {
			w = (w + 1) % 16
		}
		list[at].K = uint32(w)
	}
	return list
}

// P10.1 and P10.2: many longer filters, all their ways gone through one by one.
func TestDrawnWalked(t *testing.T) {
	d := draw(10)
	ways := uint64(0)
	for _, c := range []struct {
		times, n int
		of       kinds
	}{
		{6000, 16, kinds{15, 40, 5, 6}},
		{4000, 24, kinds{10, 60, 2, 24}},
		{2000, 60, kinds{15, 30, 10, 8}},
		{2000, 40, kinds{5, 60, 2, 3}},
		{500, 800, kinds{3, 40, 30, 255}},
	} {
		for range c.times {
			list := drawn(&d, 1+d.below(c.n), c.of)
			if !verify.Right(list) {
				t.Fatalf("no filter: %+v", list)
			}
			// a quick look, lest the walk takes too long
			if small := exact(list); small.cost.Cmp(big.NewInt(1<<18)) > 0 {
				continue
			}
			want := walked(list)
			ways += want.count
			checkNumbers(t, list, want)
		}
	}
	if ways < 100000 {
		t.Errorf("no more than %d ways", ways)
	}
}

// true numbers of any size: how many ways there are, how many instructions they have, how many ways there are from each place on, and how many there are from all of them.
type exactly struct {
	count, work, cost *big.Int
	from              []*big.Int
}

// exact is the numbers of a filter as they are, held at nothing. The instructions of all ways are, place by place, the ways that come there times the ways that go on from there.
func exact(list []api.Instr) exactly {
	out := exactly{new(big.Int), new(big.Int), new(big.Int), make([]*big.Int, len(list))}
	to := make([]*big.Int, len(list))
	for at := range list {
		out.from[at], to[at] = new(big.Int), new(big.Int)
	}
	to[0].SetInt64(1)
	for at := range list {
		next := places(list, at)
		if len(next) == 0 {
			out.count.Add(out.count, to[at])
		}
		for _, b := range next {
			to[b].Add(to[b], to[at])
		}
	}
	for at := len(list) - 1; at >= 0; at-- {
		next := places(list, at)
		if len(next) == 0 {
			out.from[at].SetInt64(1)
		}
		for _, b := range next {
			out.from[at].Add(out.from[at], out.from[b])
		}
		out.work.Add(out.work, new(big.Int).Mul(to[at], out.from[at]))
		out.cost.Add(out.cost, out.from[at])
	}
	return out
}

// short is a number, or 2^50 for what is more.
func short(n *big.Int) uint64 {
	if n.IsUint64() && n.Uint64() < limit {
		return n.Uint64()
	}
	return limit
}

// shortened is the numbers of a filter, reckoned as they are and made short only then.
func shortened(list []api.Instr) numbers {
	is := exact(list)
	out := numbers{count: short(is.count), work: short(is.work)}
	out.enough = short(new(big.Int).Mul(is.count, big.NewInt(int64(len(list)))))
	for _, n := range is.from {
		out.from = append(out.from, short(n))
	}
	return out
}

// P10.1 and P10.2: many filters, up to the longest ones, with any numbers of ways, below 2^50 and above it, against numbers of any size.
func TestDrawnExact(t *testing.T) {
	d := draw(50)
	held := map[numbersHeld]int{}
	for _, c := range []struct {
		times, n int
		of       kinds
	}{
		{1000, 60, kinds{10, 40, 3, 5}},
		{3000, 200, kinds{10, 60, 0, 2}},
		{3000, 400, kinds{5, 50, 1, 3}},
		{1000, 1000, kinds{5, 60, 1, 15}},
		{200, 4096, kinds{5, 70, 0, 100}},
		{60, 4096, kinds{5, 90, 0, 255}},
		{60, 4096, kinds{5, 5, 1, 20}},
	} {
		for range c.times {
			list := drawn(&d, 1+d.below(c.n), c.of)
			if !verify.Right(list) {
				t.Fatalf("no filter: %+v", list)
			}
			want := shortened(list)
			checkNumbers(t, list, want)
			held[numbersHeld{want.count == limit, want.work == limit, want.enough == limit}]++
		}
	}
	if len(held) != 4 {
		t.Errorf("not all of those that there can be: %v", held)
	}
	for which, n := range held {
		if n < 20 {
			t.Errorf("%+v: no more than %d", which, n)
		}
	}
}

// numbersHeld tells which of a filter's numbers are 2^50.
type numbersHeld struct{ count, work, enough bool }

// P10.1 and P10.2: the longest filters, with one way, with the most ways, with numbers that would be above 2^64 many times over.
func TestLongest(t *testing.T) {
	line := append(many(tax, 4095), ret)
	checkNumbers(t, line, numbers{1, 4096, 4096, slices.Repeat([]uint64{1}, 4096)})
	jas := append(many(ja(0), 4095), ret)
	checkNumbers(t, jas, numbers{1, 4096, 4096, slices.Repeat([]uint64{1}, 4096)})
	checkNumbers(t, many(ret, 4096), numbers{1, 1, 4096, slices.Repeat([]uint64{1}, 4096)})
	far := slices.Concat(program(ja(4094)), many(tax, 4094), program(ret))
	checkNumbers(t, far, numbers{1, 2, 4096, slices.Repeat([]uint64{1}, 4096)})

	one := append(many(jif(0, 0), 4095), ret)
	checkNumbers(t, one, numbers{1, 4096, 4096, slices.Repeat([]uint64{1}, 4096)})
	two := slices.Concat(many(jif(0, 1), 4094), many(ret, 2))
	want := shortened(two)
	if want.count != limit || want.from[4094] != 1 || want.from[4093] != 2 || want.from[4092] != 3 || want.from[4091] != 5 {
		t.Fatal(want.from[4080:])
	}
	checkNumbers(t, two, want)
	// a way that ends at each place but the last ones
	comb := slices.Concat(slices.Repeat(program(jif(0, 1), ret), 2047), program(tax, ret))
	want = shortened(comb)
	if want.count != 2048 || want.work != 2047*2048/2+2047+2049 || want.enough != 2048*4096 {
		t.Fatal(want.count, want.work, want.enough)
	}
	checkNumbers(t, comb, want)
	last := slices.Concat(many(jif(255, 0), 3840), many(ret, 256))
	checkNumbers(t, last, shortened(last))
}

// ladder is a filter with 2^k ways: k times a Jif that may leave out the tax behind it; then a return.
func ladder(k int) []api.Instr {
	return append(slices.Repeat(program(jif(0, 1), tax), k), ret)
}

// doubled is 2^k, or 2^50 where that is more.
func doubled(k int) uint64 { return uint64(1) << min(k, 50) }

// P10.1: all numbers at 2^50 and about it, where each step of a ladder doubles the ways: of 2^k ways each one has the k Jifs and the return, half of them each tax.
func TestLadders(t *testing.T) {
	for k := 0; k <= 70; k++ {
		ways := doubled(k)
		want := numbers{count: ways, work: min(limit, ways/2*uint64(3*k)+ways), enough: min(limit, ways*uint64(2*k+1))}
		for left := k; left > 0; left-- {
			want.from = append(want.from, doubled(left), doubled(left-1))
		}
		want.from = append(want.from, 1)
		checkNumbers(t, ladder(k), want)
	}
}

// counted is a filter with n ways: by the digits of n, from the lowest one on, a Jif to a return for one way more, and a Jif that may leave out a tax for twice as many.
func counted(n uint64) []api.Instr {
	switch {
	case n == 1:
		return program(ret)
	case n%2 == 1:
		return append(program(jif(0, 1), ret), counted(n-1)...)
	}
	return append(program(jif(0, 1), tax), counted(n/2)...)
}

// P10.1: numbers of ways that are just below 2^50, just that and above it.
func TestCountAtTheLimit(t *testing.T) {
	for n, want := range map[uint64]uint64{
		1: 1, 2: 2, 3: 3, 7: 7, 1<<32 - 1: 1<<32 - 1, 1<<32 + 1: 1<<32 + 1, 1<<49 + 1: 1<<49 + 1,
		limit - 2: limit - 2, limit - 1: limit - 1, limit: limit, limit + 1: limit, limit + 2: limit, limit + 3: limit, 2*limit - 1: limit, 2 * limit: limit, 1<<53 + 1: limit, 1<<63 + 1: limit, math.MaxUint64: limit,
	} {
		list := counted(n)
		if is := exact(list).count; !is.IsUint64() || is.Uint64() != n {
			t.Fatalf("%d ways, not %d", is, n)
		}
		got := told(t, list)
		if got.count != want || got.from[0] != want {
			t.Errorf("of %d ways: Count %d, From %d, not %d", n, got.count, got.from[0], want)
		}
		checkNumbers(t, list, shortened(list))
	}
}

// forked is a Jif, on its one side a filter, on the other side another one.
func forked(a, b []api.Instr) []api.Instr {
	return slices.Concat(program(jif(0, 1), ja(1), ja(uint32(len(a)))), a, b)
}

// P10.1: sums of two numbers that aren't above 2^50, and are below it, just it and above it together; on both sides of the Jif.
func TestSumsAtTheLimit(t *testing.T) {
	half := limit / 2
	for _, c := range []struct{ a, b, want uint64 }{
		{1, limit - 2, limit - 1}, {2, limit - 3, limit - 1}, {half, half - 1, limit - 1}, {half - 1, half - 1, limit - 2},
		{1, limit - 1, limit}, {2, limit - 2, limit}, {half, half, limit}, {half + 1, half - 1, limit},
		{2, limit - 1, limit}, {half, half + 1, limit}, {limit - 1, limit - 1, limit}, {limit, 1, limit}, {limit, limit - 1, limit}, {limit, limit, limit}, {limit + 1, 1, limit}, {2 * limit, 4 * limit, limit}, {1 << 63, 1 << 63, limit},
	} {
		for _, pair := range [][2]uint64{{c.a, c.b}, {c.b, c.a}} {
			list := forked(counted(pair[0]), counted(pair[1]))
			got := told(t, list)
			if got.count != c.want || got.from[0] != c.want || got.from[1] != min(pair[0], limit) || got.from[2] != min(pair[1], limit) {
				t.Errorf("%v: Count %d, From %v, not %d", pair, got.count, got.from[:3], c.want)
			}
			checkNumbers(t, list, shortened(list))
		}
	}
}

// worked is a filter whose ways have n instructions together, with some in front of each way counted in. It begins with Jifs, each of which goes to a part of a ladder, the greatest one that fits into what is left, or on to the next Jif; the last way is a line as long as the rest asks.
func worked(n, front uint64) []api.Instr {
	var sides []int
	for left, depth := n, front; ; depth++ {
		if left <= depth+1000 {
			return laid(sides, int(left-depth))
		}
		k := 0
		for part(k+1, depth+1) <= left-depth-2 {
			k++
		}
		sides = append(sides, k)
		left -= part(k, depth+1)
	}
}

// part is how many instructions there are of the ways through the lowest k steps of a ladder, with a number of instructions in front of each of these ways.
func part(k int, front uint64) uint64 { return uint64(1) << k * (2 + 3*uint64(k) + 2*front) / 2 }

// laid is the Jifs with these parts of one ladder as their sides, and the line.
func laid(sides []int, line int) []api.Instr {
	steps := slices.Max(append(sides, 0))
	var list []api.Instr
	for at, k := range sides {
		list = append(list, jif(uint8(len(sides)-1-at+1+2*(steps-k)), 0))
	}
	// the line's first instruction leaves out the ladder
	parts := ladder(steps)
	if line == 1 {
		return slices.Concat(list, program(ret), parts)
	}
	return slices.Concat(list, program(ja(uint32(len(parts)))), parts, many(tax, line-2), program(ret))
}

// P10.1: Work just below 2^50, just that and above it, while Count is far below it.
func TestWorkAtTheLimit(t *testing.T) {
	for _, n := range []uint64{1, 2, 999, 1000, 1001, 1002, 5000, 1 << 20, 1<<32 + 1, 1<<49 - 1, limit - 2000, limit - 1001, limit - 3, limit - 2, limit - 1, limit, limit + 1, limit + 2, limit + 999, 2*limit - 1, 2 * limit, 1<<52 + 7} {
		list := worked(n, 0)
		is := exact(list)
		if !is.work.IsUint64() || is.work.Uint64() != n || is.count.Uint64() > n/20+1000 {
			t.Fatalf("%d instructions of %d ways, not %d", is.work, is.count, n)
		}
		if got := told(t, list); got.work != min(n, limit) || got.count != is.count.Uint64() {
			t.Errorf("of %d: Work %d, Count %d", n, got.work, got.count)
		}
		checkNumbers(t, list, shortened(list))
	}
}

// P10.1: Work where that of each side of a Jif is not above 2^50, and both together just below it, just it or above it, and Count far below. Each way of a side has two instructions more: the Jif and a Ja.
func TestWorkOfTwoSides(t *testing.T) {
	half := limit / 2
	for _, c := range []struct{ a, b uint64 }{
		{half, half - 1}, {half, half}, {half, half + 1}, {half - 1, half + 1}, {1 << 30, limit - 1<<30 - 1}, {1 << 30, limit - 1<<30}, {1 << 30, limit - 1<<30 + 1}, {7, limit - 8}, {7, limit - 7}, {7, limit - 6}, {limit - 1, limit - 1}, {limit, limit}, {3, 1 << 52}, {1 << 52, 1 << 52},
	} {
		for _, pair := range [][2]uint64{{c.a, c.b}, {c.b, c.a}} {
			list := forked(worked(pair[0], 2), worked(pair[1], 2))
			is := exact(list)
			if is.work.Uint64() != c.a+c.b {
				t.Fatalf("%d, not %d", is.work, c.a+c.b)
			}
			if got := told(t, list); got.work != min(c.a+c.b, limit) || got.count != is.count.Uint64() || got.count > limit/8 {
				t.Errorf("%v: Work %d, Count %d", pair, got.work, got.count)
			}
			checkNumbers(t, list, shortened(list))
		}
	}
}

// padded is a filter of n instructions, with returns at its end that no way comes to.
func padded(t *testing.T, list []api.Instr, n int) []api.Instr {
	t.Helper()
	if len(list) > n {
		t.Fatalf("%d instructions, more than %d", len(list), n)
	}
	return append(list, many(ret, n-len(list))...)
}

// P10.1: Enough just below 2^50, just that and above it, while Count and Work are below it: a product of two numbers that aren't above it.
func TestEnoughAtTheLimit(t *testing.T) {
	for _, c := range []struct {
		ways uint64
		n    int
		want uint64
	}{
		{1 << 40, 1024, limit}, {1<<40 - 1, 1024, limit - 1024}, {1<<40 + 1, 1024, limit},
		{1 << 38, 4096, limit}, {1<<38 - 1, 4096, limit - 4096}, {1<<38 + 1, 4096, limit},
		{1 << 42, 256, limit}, {1<<42 - 1, 256, limit - 256}, {1<<42 + 1, 256, limit},
		// 2^50 - 1 is 3 times 11 times 31 times 251 times 601 times 1801, 2^50 + 1 is 5 times 5 times 5 times 41 times 101 times 8101 times 268501
		{(limit - 1) / 1801, 1801, limit - 1}, {(limit-1)/1801 + 1, 1801, limit}, {(limit - 1) / 601, 601, limit - 1}, {(limit - 1) / 251, 251, limit - 1}, {(limit - 1) / 3 / 601, 1803, limit - 1},
		{(limit + 1) / 505, 505, limit}, {(limit + 1) / 1025, 1025, limit}, {(limit+1)/1025 - 1, 1025, limit - 1024}, {(limit + 1) / 2525, 2525, limit},
		// a product that would be one of 2^62, and one that would be above it
		{limit, 4096, limit}, {limit - 1, 4096, limit}, {1 << 52, 4096, limit}, {1<<52 + 1, 4096, limit}, {1 << 63, 4096, limit},
	} {
		list := padded(t, counted(c.ways), c.n)
		got := told(t, list)
		if got.count != min(c.ways, limit) {
			t.Fatalf("%d ways, not %d", got.count, c.ways)
		}
		if got.enough != c.want {
			t.Errorf("%d times %d: Enough %d, not %d", c.ways, c.n, got.enough, c.want)
		}
		checkNumbers(t, list, shortened(list))
	}
}

// Rules 3, 4 and 6: a list and its spare room stay as they are, an answer is new memory, and the same each time.
func TestNothingShared(t *testing.T) {
	room := append(read(t, "ja 1\nret 1\nld 0\njeq 5 0 2\nldi 1\nja 2\nldi 2\nja 0\nreta\nret 3\n"), of(0x94, 9), ja(top))
	was := slices.Clone(room)
	list := room[:10]
	for range 3 {
		checkNumbers(t, list, numbers{2, 12, 20, []uint64{2, 1, 2, 2, 1, 1, 1, 1, 1, 1}})
		from := From(list)
		clear(from[:cap(from)])
		if !slices.Equal(room, was) {
			t.Fatal("the list was changed")
		}
	}
}
