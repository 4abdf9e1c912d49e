package graph

import (
	"math"
	"slices"
	"testing"

	"tamis/api"
	"tamis/machine"
	"tamis/verify"
)

const top = math.MaxUint32

// The instructions that the tests are made of, written out by hand.
var (
	ret  = api.Instr{Code: 0x06, K: 7}
	reta = api.Instr{Code: 0x16}
	ld   = api.Instr{Code: 0x20}
	tax  = api.Instr{Code: 0x07}
	divx = api.Instr{Code: 0x3c}
)

func of(c uint16, k uint32) api.Instr       { return api.Instr{Code: c, K: k} }
func ja(k uint32) api.Instr                 { return api.Instr{Code: 0x05, K: k} }
func jif(jt, jf uint8) api.Instr            { return api.Instr{Code: 0x15, Jt: jt, Jf: jf, K: 5} }
func program(list ...api.Instr) []api.Instr { return list }
func many(i api.Instr, n int) []api.Instr   { return slices.Repeat([]api.Instr{i}, n) }

// there are all codes that there are, as the chapter of codes lists them.
var there = []uint16{
	0x20, 0x80, 0x00, 0x60, 0x01, 0x61, 0x81, 0x02, 0x03,
	0x04, 0x14, 0x24, 0x34, 0x44, 0x54, 0x64, 0x74, 0xa4,
	0x0c, 0x1c, 0x2c, 0x3c, 0x4c, 0x5c, 0x6c, 0x7c, 0xac, 0x84,
	0x05, 0x15, 0x25, 0x35, 0x45, 0x1d, 0x2d, 0x3d, 0x4d,
	0x06, 0x16, 0x07, 0x87,
}

var jifs = []uint16{0x15, 0x25, 0x35, 0x45, 0x1d, 0x2d, 0x3d, 0x4d}

// noFilters is a program for each reason for which one is no filter; in most of them no way comes to what is wrong.
func noFilters() [][]api.Instr {
	return [][]api.Instr{
		nil, {},
		many(ret, 4097),
		program(tax),
		program(ret, tax),
		program(ret, jif(0, 0)),
		program(of(0x60, 0), ret),
		program(of(0x61, 15), ret),
		program(jif(0, 1), of(0x02, 0), of(0x60, 0), ret),
		program(ret, of(0x94, 0), ret),
		program(ret, of(0x20, 3), ret),
		program(ret, of(0x02, 16), ret),
		program(ret, of(0x34, 0), ret),
		program(ret, of(0x64, 32), ret),
		program(ret, ja(1), ret),
		program(ret, ja(top), ret),
		program(ret, jif(1, 0), ret),
		program(ret, jif(0, 1), ret),
	}
}

// behind is the places behind one, by the codes' numbers alone, of a list with nothing wrong.
func behind(list []api.Instr, at int) []int {
	i := list[at]
	switch {
	case i.Code == 0x06 || i.Code == 0x16:
		return nil
	case i.Code == 0x05:
		return []int{at + int(i.K) + 1}
	case i.Code&7 == 5 && i.Jt == i.Jf:
		return []int{at + int(i.Jt) + 1}
	case i.Code&7 == 5 && i.Jt < i.Jf:
		return []int{at + int(i.Jt) + 1, at + int(i.Jf) + 1}
	case i.Code&7 == 5:
		return []int{at + int(i.Jf) + 1, at + int(i.Jt) + 1}
	}
	return []int{at + 1}
}

// ways are all ways through a filter from a place on, each one written out.
func ways(list []api.Instr, at int) [][]int {
	to := behind(list, at)
	if len(to) == 0 {
		return [][]int{{at}}
	}
	var out [][]int
	for _, next := range to {
		for _, way := range ways(list, next) {
			out = append(out, append([]int{at}, way...))
		}
	}
	return out
}

func checkNext(t *testing.T, list []api.Instr, at int, want ...int) {
	t.Helper()
	if got := Next(list, at); !slices.Equal(got, want) {
		t.Errorf("Next at %d of %d instructions: %v, not %v", at, len(list), got, want)
	}
}

// P8.1: there is no place below 0, none at len(list), none beyond.
func TestNextRange(t *testing.T) {
	for _, list := range [][]api.Instr{nil, {}, program(tax), program(ret), program(tax, tax, tax)[:2], program(ld, ja(0), jif(0, 0), ret), many(tax, 4096)} {
		n := len(list)
		for _, at := range []int{-1, -2, -n - 1, n, n + 1, n + 4096, math.MinInt, math.MaxInt, math.MinInt32, math.MaxInt32} {
			checkNext(t, list, at)
		}
	}
}

// P8.1: nothing is behind an instruction with which something is wrong alone.
func TestNextLocal(t *testing.T) {
	for _, c := range []struct {
		i    api.Instr
		want api.Errno
	}{
		{of(0x94, 1), api.ErrCode}, {of(0x8c, 1), api.ErrCode}, {of(0x0e, 1), api.ErrCode}, {of(0x28, 0), api.ErrCode}, {of(0x115, 0), api.ErrCode}, {of(top>>16, 0), api.ErrCode},
		{of(0x20, 1), api.ErrLoad}, {of(0x20, 64), api.ErrLoad}, {of(0x20, top), api.ErrLoad},
		{of(0x60, 16), api.ErrWord}, {of(0x61, 16), api.ErrWord}, {of(0x02, 16), api.ErrWord}, {of(0x03, 16), api.ErrWord},
		{of(0x34, 0), api.ErrZero},
		{of(0x64, 32), api.ErrShift}, {of(0x74, 32), api.ErrShift},
		{ja(2), api.ErrJump}, {ja(top), api.ErrJump}, {ja(top - 1), api.ErrJump}, {jif(2, 0), api.ErrJump}, {jif(0, 2), api.ErrJump}, {jif(255, 255), api.ErrJump},
	} {
		list := program(ret, c.i, ret, ret)
		if e := verify.Local(list, 1); e != c.want {
			t.Fatalf("%+v: %d, not %d", c.i, e, c.want)
		}
		checkNext(t, list, 1)
	}
}

// P8.1: nothing is behind any place of a list longer than 4096, all behind those of one that long.
func TestNextLong(t *testing.T) {
	for _, n := range []int{4097, 4098, 1 << 16} {
		for _, i := range []api.Instr{tax, ja(3), jif(2, 1), ret} {
			list := many(i, n)
			for _, at := range []int{0, 1, n / 2, n - 5, n - 1} {
				checkNext(t, list, at)
			}
		}
	}
	list := many(tax, 4096)
	list[0], list[3], list[9] = ja(4094), jif(255, 254), ja(0)
	checkNext(t, list, 0, 4095)
	checkNext(t, list, 1, 2)
	checkNext(t, list, 3, 258, 259)
	checkNext(t, list, 9, 10)
	checkNext(t, list, 4094, 4095)
	checkNext(t, list, 4095, 4096)
}

// P8.1: by each code there is, at the front, in the middle and at the end. K is 4, which is wrong with none of them where there is room.
func TestNextCodes(t *testing.T) {
	for _, c := range there {
		i := api.Instr{Code: c, Jt: 2, Jf: 1, K: 4}
		for at := range 3 {
			list := slices.Concat(many(ret, at), program(i), many(ret, 9))
			switch {
			case c == 0x06 || c == 0x16:
				checkNext(t, list, at)
			case c == 0x05:
				checkNext(t, list, at, at+5)
			case slices.Contains(jifs, c):
				checkNext(t, list, at, at+2, at+3)
			default:
				checkNext(t, list, at, at+1)
			}
			switch end := list[:at+1]; {
			case c == 0x06 || c == 0x16 || c == 0x05 || slices.Contains(jifs, c):
				checkNext(t, end, at)
			default:
				checkNext(t, end, at, at+1)
			}
		}
	}
}

// P8.1: a Jif's two places rise, whichever of them Jt is; where they are one it is told once.
func TestNextJif(t *testing.T) {
	for _, c := range jifs {
		for _, k := range []uint32{0, 1, top} {
			list := program(ret, api.Instr{Code: c, K: k}, ret)
			list = append(list, many(ret, 255)...)
			for _, jt := range []uint8{0, 1, 2, 3, 127, 128, 254, 255} {
				for _, jf := range []uint8{0, 1, 2, 3, 127, 128, 254, 255} {
					list[1].Jt, list[1].Jf = jt, jf
					switch {
					case jt == jf:
						checkNext(t, list, 1, 2+int(jt))
					default:
						checkNext(t, list, 1, 2+int(min(jt, jf)), 2+int(max(jt, jf)))
					}
				}
			}
		}
	}
}

// P8.1: a Ja's Jt and Jf are nothing to it, nor are those of what is no jump.
func TestNextJa(t *testing.T) {
	list := many(ret, 400)
	for _, k := range []uint32{0, 1, 2, 255, 256, 398} {
		list[0] = api.Instr{Code: 0x05, Jt: 9, Jf: 200, K: k}
		checkNext(t, list, 0, 1+int(k))
	}
	list[0].K = 399
	checkNext(t, list, 0)
	list[0] = api.Instr{Code: 0x07, Jt: 9, Jf: 200, K: top}
	checkNext(t, list, 0, 1)
}

// P8.1: of what is no filter each place has what is behind it, but those with which something is wrong.
func TestNextOfNoFilter(t *testing.T) {
	list := program(of(0x60, 3), jif(3, 1), of(0x94, 0), ja(1), of(0x34, 0), tax, ja(1), of(0x87, 0))
	for at, want := range [][]int{{1}, {3, 5}, {}, {5}, {}, {6}, {}, {8}} {
		checkNext(t, list, at, want...)
	}
	checkNext(t, program(tax), 0, 1)
	checkNext(t, program(ja(0)), 0)
	checkNext(t, program(jif(0, 0)), 0)
}

// P8.1 and P8.2: what is no filter has no ways, and so no blocks.
func TestNoFilter(t *testing.T) {
	for i, list := range noFilters() {
		if got := Reached(list); len(got) != 0 {
			t.Errorf("%d: Reached %v", i, got)
		}
		if got := Into(list); len(got) != 0 {
			t.Errorf("%d: Into %v", i, got)
		}
		if n, e := Longest(list); n != 0 || e != api.ErrArg {
			t.Errorf("%d: Longest %d %d", i, n, e)
		}
		if got, e := Blocks(list); len(got) != 0 || e != api.ErrArg {
			t.Errorf("%d: Blocks %v %d", i, got, e)
		}
	}
}

// known is a filter and all that was found of it by hand. In seen, a place that a way comes to is a 1.
type known struct {
	list   []api.Instr
	seen   string
	into   []int
	long   int
	blocks []Block
}

func knowns() []known {
	return []known{
		// one instruction
		{program(ret), "1", []int{0}, 1, []Block{{0, 0, nil}}},
		{program(reta), "1", []int{0}, 1, []Block{{0, 0, nil}}},
		// one block; nothing but the code says that a division ends
		{program(ld, tax, divx, reta), "1111", []int{0, 1, 1, 1}, 4, []Block{{0, 3, nil}}},
		// the chapter's example
		{program(ld, jif(0, 1), of(0x06, 1), of(0x06, 2)), "1111", []int{0, 1, 1, 1}, 3,
			[]Block{{0, 1, []int{1, 2}}, {2, 2, nil}, {3, 3, nil}}},
		// Jt beyond Jf: the blocks rise all the same
		{program(ld, jif(1, 0), of(0x06, 1), of(0x06, 2)), "1111", []int{0, 1, 1, 1}, 3,
			[]Block{{0, 1, []int{1, 2}}, {2, 2, nil}, {3, 3, nil}}},
		// a Jif both ways of which meet counts once, and a block begins behind it
		{program(jif(1, 1), tax, tax, ret), "1011", []int{0, 0, 1, 1}, 3,
			[]Block{{0, 0, []int{1}}, {2, 3, nil}}},
		{program(jif(0, 0), tax, ret), "111", []int{0, 1, 1}, 3,
			[]Block{{0, 0, []int{1}}, {1, 2, nil}}},
		// a leader behind a Ja, right behind it and further on; none of what it leaves out
		{program(ja(0), ret), "11", []int{0, 1}, 2, []Block{{0, 0, []int{1}}, {1, 1, nil}}},
		{program(tax, ja(2), tax, tax, tax, ret), "110011", []int{0, 1, 0, 0, 1, 1}, 4,
			[]Block{{0, 1, []int{1}}, {4, 5, nil}}},
		{program(ja(0), ja(0), ja(0), ret), "1111", []int{0, 1, 1, 1}, 4,
			[]Block{{0, 0, []int{1}}, {1, 1, []int{2}}, {2, 2, []int{3}}, {3, 3, nil}}},
		// a block that ends ahead of a leader, which one of the ways leaves out
		{program(jif(0, 1), tax, tax, ret), "1111", []int{0, 1, 2, 1}, 4,
			[]Block{{0, 0, []int{1, 2}}, {1, 1, []int{2}}, {2, 3, nil}}},
		{program(ld, jif(2, 0), tax, tax, reta), "11111", []int{0, 1, 1, 1, 2}, 5,
			[]Block{{0, 1, []int{1, 2}}, {2, 3, []int{2}}, {4, 4, nil}}},
		// three ways to one place
		{program(jif(0, 2), jif(0, 1), tax, ret), "1111", []int{0, 1, 1, 3}, 4,
			[]Block{{0, 0, []int{1, 3}}, {1, 1, []int{2, 3}}, {2, 2, []int{3}}, {3, 3, nil}}},
		// places that no way comes to: behind a return at the front, at the end, and ones that jump to what is reached
		{program(ret, tax, ret), "100", []int{0, 0, 0}, 1, []Block{{0, 0, nil}}},
		{program(tax, ret, ret), "110", []int{0, 1, 0}, 2, []Block{{0, 1, nil}}},
		{program(ja(2), jif(1, 2), ja(0), tax, tax, ret), "100111", []int{0, 0, 0, 1, 1, 1}, 4,
			[]Block{{0, 0, []int{1}}, {3, 5, nil}}},
		{program(ja(1), ja(2), tax, tax, ret), "10111", []int{0, 0, 1, 1, 1}, 4,
			[]Block{{0, 0, []int{1}}, {2, 4, nil}}},
		{program(jif(1, 3), ret, tax, ret, tax, jif(1, 0), ret, ret), "10111111", []int{0, 0, 1, 1, 1, 1, 1, 1}, 4,
			[]Block{{0, 0, []int{1, 2}}, {2, 3, nil}, {4, 5, []int{3, 4}}, {6, 6, nil}, {7, 7, nil}}},
		// a word that isn't written, where no way comes to it
		{program(ja(1), of(0x60, 3), reta), "101", []int{0, 0, 1}, 2, []Block{{0, 0, []int{1}}, {2, 2, nil}}},
		// the way with more blocks, 0 5 6 7 8, has fewer instructions than 0 1 2 3 4 8
		{program(jif(0, 4), tax, tax, tax, ja(3), ja(0), ja(0), ja(0), ret), "111111111", []int{0, 1, 1, 1, 1, 1, 1, 1, 2}, 6,
			[]Block{{0, 0, []int{1, 2}}, {1, 4, []int{5}}, {5, 5, []int{3}}, {6, 6, []int{4}}, {7, 7, []int{5}}, {8, 8, nil}}},
		// the longest way goes by Jf at one Jif, by Jt at the other
		{program(jif(3, 0), jif(0, 1), tax, tax, ret), "11111", []int{0, 1, 1, 2, 2}, 5,
			[]Block{{0, 0, []int{1, 4}}, {1, 1, []int{2, 3}}, {2, 2, []int{3}}, {3, 3, []int{4}}, {4, 4, nil}}},
		// unreached instructions make no way longer
		{program(jif(0, 1), ret, ja(3), tax, tax, tax, ret), "1110001", []int{0, 1, 1, 0, 0, 0, 1}, 3,
			[]Block{{0, 0, []int{1, 2}}, {1, 1, nil}, {2, 2, []int{3}}, {6, 6, nil}}},
	}
}

func marks(seen []bool) string {
	out := ""
	for _, is := range seen {
		if is {
			out += "1"
		} else {
			out += "0"
		}
	}
	return out
}

func sameBlock(a, b Block) bool {
	return a.From == b.From && a.To == b.To && slices.Equal(a.Next, b.Next)
}

// check holds the four functions against what is known of a filter.
func check(t *testing.T, c known) {
	t.Helper()
	if got := marks(Reached(c.list)); got != c.seen {
		t.Fatalf("Reached of %+v: %s, not %s", c.list, got, c.seen)
	}
	if got := Into(c.list); !slices.Equal(got, c.into) {
		t.Fatalf("Into of %+v: %v, not %v", c.list, got, c.into)
	}
	if n, e := Longest(c.list); n != c.long || e != api.OK {
		t.Fatalf("Longest of %+v: %d %d, not %d", c.list, n, e, c.long)
	}
	if got, e := Blocks(c.list); e != api.OK || !slices.EqualFunc(got, c.blocks, sameBlock) {
		t.Fatalf("Blocks of %+v: %v %d, not %v", c.list, got, e, c.blocks)
	}
}

// P8.1 and P8.2: filters of which all was found by hand.
func TestKnown(t *testing.T) {
	for _, c := range knowns() {
		check(t, c)
	}
}

// byWays finds out the same from all ways through a filter, written out: a place is reached if it stands in one, and comes from as many places as stand right ahead of it in some.
func byWays(list []api.Instr) known {
	all := ways(list, 0)
	out := known{list: list, into: make([]int, len(list))}
	seen := make([]bool, len(list))
	pairs := map[[2]int]bool{}
	for _, way := range all {
		out.long = max(out.long, len(way))
		for n, at := range way {
			seen[at] = true
			if n > 0 {
				pairs[[2]int{way[n-1], at}] = true
			}
		}
	}
	lead := make([]bool, len(list)+1)
	lead[0] = true
	for p := range pairs {
		out.into[p[1]]++
	}
	for p := range pairs {
		lead[p[1]] = lead[p[1]] || list[p[0]].Code&7 == 5 || out.into[p[1]] > 1
	}
	out.seen, out.blocks = marks(seen), byLeaders(list, lead)
	return out
}

// byLeaders cuts the list ahead of each leader, and has a block end at its first jump or return; a block's Next are found by looking through all of them.
func byLeaders(list []api.Instr, lead []bool) []Block {
	var out []Block
	for from := range list {
		if !lead[from] {
			continue
		}
		to := from
		for list[to].Code&7 != 5 && list[to].Code&7 != 6 && !lead[to+1] {
			to++
		}
		out = append(out, Block{From: from, To: to})
	}
	for b := range out {
		for _, at := range behind(list, out[b].To) {
			out[b].Next = append(out[b].Next, slices.IndexFunc(out, func(o Block) bool { return o.From == at }))
		}
	}
	return out
}

// checkCover holds P8.3's first half: each reached place stands in one block, no other place in any.
func checkCover(t *testing.T, list []api.Instr) {
	t.Helper()
	blocks, _ := Blocks(list)
	count := make([]int, len(list))
	for b, x := range blocks {
		if x.From > x.To || b > 0 && x.From <= blocks[b-1].To {
			t.Fatalf("the blocks of %+v don't rise: %v", list, blocks)
		}
		for at := x.From; at <= x.To; at++ {
			count[at]++
		}
		if !slices.IsSorted(x.Next) || len(slices.Compact(slices.Clone(x.Next))) != len(x.Next) {
			t.Fatalf("Next of the blocks of %+v doesn't rise: %v", list, blocks)
		}
	}
	for at, is := range Reached(list) {
		if is && count[at] != 1 || !is && count[at] != 0 {
			t.Fatalf("%+v: place %d stands in %d blocks", list, at, count[at])
		}
	}
}

// throughBlocks tells whether a way goes from the first block to one that is behind it, and so on, each from its front to its end; the last one may be left early, if cut.
func throughBlocks(blocks []Block, way []int, cut bool) bool {
	b, at := 0, 0
	for n, place := range way {
		if place != at {
			return false
		}
		if n == len(way)-1 {
			return cut || at == blocks[b].To && len(blocks[b].Next) == 0
		}
		if at < blocks[b].To {
			at++
			continue
		}
		next := slices.IndexFunc(blocks[b].Next, func(o int) bool { return blocks[o].From == way[n+1] })
		if next < 0 {
			return false
		}
		b = blocks[b].Next[next]
		at = blocks[b].From
	}
	return false
}

// waysOf is how many ways there are from a block on.
func waysOf(blocks []Block, b int) int {
	if len(blocks[b].Next) == 0 {
		return 1
	}
	n := 0
	for _, next := range blocks[b].Next {
		n += waysOf(blocks, next)
	}
	return n
}

// checkWays holds P8.3's second half: each way is one through the blocks; and there are no more of these.
func checkWays(t *testing.T, list []api.Instr) {
	t.Helper()
	blocks, _ := Blocks(list)
	all := ways(list, 0)
	for _, way := range all {
		if !throughBlocks(blocks, way, false) {
			t.Fatalf("%+v: %v is no way through %v", list, way, blocks)
		}
	}
	if n := waysOf(blocks, 0); n != len(all) {
		t.Fatalf("%+v: %d ways through the blocks, %d in all", list, n, len(all))
	}
}

// checkTraces holds what the machine does against the blocks. It leaves a block early only by a division by 0.
func checkTraces(t *testing.T, list []api.Instr, d *draw, records int) {
	t.Helper()
	blocks, _ := Blocks(list)
	for range records {
		var r api.Record
		for w := range r {
			r[w] = uint32(d.below(4)) + 3
		}
		places, e := machine.Trace(list, r)
		if e != api.OK {
			t.Fatal(e)
		}
		end := list[places[len(places)-1]].Code
		if !throughBlocks(blocks, places, end == 0x3c) {
			t.Fatalf("%+v: %v is no way through %v", list, places, blocks)
		}
	}
}

// draw is numbers that look like any, the same ones at each run.
type draw uint64

func (d *draw) below(n int) int {
	*d = *d*6364136223846793005 + 1442695040888963407
	return int(uint64(*d) >> 33 % uint64(n))
}

// P8.1, P8.2 and P8.3: of the filters known by hand, too.
func TestKnownWays(t *testing.T) {
	d := draw(1)
	for _, c := range knowns() {
		check(t, byWays(c.list))
		checkCover(t, c.list)
		checkWays(t, c.list)
		checkTraces(t, c.list, &d, 50)
	}
}

// each calls do with all lists of n of the instructions.
func each(of []api.Instr, n int, do func(list []api.Instr)) {
	list := make([]api.Instr, n)
	var fill func(at int)
	fill = func(at int) {
		if at == n {
			do(list)
			return
		}
		for _, i := range of {
			list[at] = i
			fill(at + 1)
		}
	}
	fill(0)
}

// P8.1, P8.2 and P8.3: all filters of up to six instructions out of ten, each against all its ways; and that the others have none.
func TestAllSmall(t *testing.T) {
	of := []api.Instr{ld, ret, ja(0), ja(1), ja(2), jif(0, 0), jif(0, 1), jif(1, 0), jif(0, 2), jif(2, 1)}
	filters := 0
	for n := 1; n <= 6; n++ {
		each(of, n, func(list []api.Instr) {
			if !verify.Right(list) {
				if b, e := Blocks(list); b != nil || e != api.ErrArg {
					t.Fatalf("%+v: %v %d", list, b, e)
				}
				return
			}
			filters++
			check(t, byWays(list))
			checkCover(t, list)
			checkWays(t, list)
		})
	}
	if filters < 10000 {
		t.Errorf("no more than %d filters", filters)
	}
}

// drawn is a filter of n instructions, with jumps of up to reach places.
func drawn(d *draw, n, reach int) []api.Instr {
	list := make([]api.Instr, n)
	for at := range list {
		room := min(n-1-at, reach)
		switch k := d.below(8); {
		case at == n-1 || k == 0 && d.below(4) == 0:
			list[at] = api.Instr{Code: []uint16{0x06, 0x16}[d.below(2)], K: uint32(at)}
		case k == 1:
			list[at] = ja(uint32(d.below(room)))
		case k < 5:
			list[at] = api.Instr{Code: jifs[d.below(8)], Jt: uint8(d.below(room)), Jf: uint8(d.below(room)), K: uint32(d.below(8))}
		default:
			list[at] = []api.Instr{of(0x20, 4*uint32(d.below(16))), tax, of(0x54, 3), of(0x02, 1), of(0x1c, 0), divx}[d.below(6)]
		}
	}
	return list
}

// P8.1, P8.2 and P8.3: longer filters against all their ways, and what the machine does with many records.
func TestDrawn(t *testing.T) {
	d := draw(7)
	for range 4000 {
		list := drawn(&d, 1+d.below(24), 1+d.below(9))
		check(t, byWays(list))
		checkCover(t, list)
		checkWays(t, list)
		checkTraces(t, list, &d, 20)
	}
}

// P8.1, P8.2 and P8.3: the longest filters, whose ways are too many to be written out.
func TestLong(t *testing.T) {
	d := draw(11)
	for range 30 {
		list := drawn(&d, 4096, 1+d.below(255))
		if !verify.Right(list) {
			t.Fatal("no filter")
		}
		checkCover(t, list)
		checkTraces(t, list, &d, 50)
	}
	line := append(many(tax, 4095), ret)
	if n, e := Longest(line); n != 4096 || e != api.OK {
		t.Error(n, e)
	}
	if b, e := Blocks(line); e != api.OK || len(b) != 1 || !sameBlock(b[0], Block{0, 4095, nil}) {
		t.Error(b, e)
	}
	far := append(program(ja(4094)), many(ret, 4095)...)
	if n, e := Longest(far); n != 2 || e != api.OK {
		t.Error(n, e)
	}
	if b, e := Blocks(far); e != api.OK || !slices.EqualFunc(b, []Block{{0, 0, []int{1}}, {4095, 4095, nil}}, sameBlock) {
		t.Error(b, e)
	}
	// a ladder has more ways than can be counted in a number of 64 bits
	ladder := append(many(jif(0, 1), 4094), ret, ret)
	if n, e := Longest(ladder); n != 4095 || e != api.OK {
		t.Error(n, e)
	}
	if b, e := Blocks(ladder); e != api.OK || len(b) != 4096 || !sameBlock(b[4093], Block{4093, 4093, []int{4094, 4095}}) {
		t.Error(len(b), e)
	}
	if in := Into(ladder); in[0] != 0 || in[1] != 1 || in[2] != 2 || in[4094] != 2 || in[4095] != 1 {
		t.Error(in[:3], in[4093:])
	}
}

// Rules 3, 4 and 6: a list and its spare room stay as they are, an answer is new memory, and the same each time.
func TestNothingShared(t *testing.T) {
	room := program(ld, jif(0, 3), tax, ja(2), ret, jif(1, 0), ret, reta, of(0x94, 9), ja(top))
	was := slices.Clone(room)
	list := room[:8]
	ask := func() ([]Block, []int, []bool, []int) {
		b, e := Blocks(list)
		if n, f := Longest(list); n != 5 || e != api.OK || f != api.OK {
			t.Error(n, e, f)
		}
		return b, Next(list, 1), Reached(list), Into(list)
	}
	b, next, seen, in := ask()
	if !slices.Equal(room, was) {
		t.Error("the list was changed")
	}
	want := []Block{{0, 1, []int{1, 2}}, {2, 3, []int{3}}, {5, 5, []int{3, 4}}, {6, 6, nil}, {7, 7, nil}}
	for n := range b {
		b[n].From, b[n].To = -1, -1
		b[n].Next = append(b[n].Next, -1, -1)
		for k := range b[n].Next {
			b[n].Next[k] = -1
		}
	}
	clear(next)
	clear(seen)
	clear(in)
	b2, next2, seen2, in2 := ask()
	if !slices.EqualFunc(b2, want, sameBlock) || !slices.Equal(next2, []int{2, 5}) || marks(seen2) != "11110111" || !slices.Equal(in2, []int{0, 1, 1, 1, 0, 1, 2, 1}) {
		t.Error(b2, next2, marks(seen2), in2)
	}
	for n := range b2 {
		b2[n].Next = append(b2[n].Next, 77)
		want[n].Next = append(want[n].Next, 77)
	}
	if !slices.EqualFunc(b2, want, sameBlock) {
		t.Error("two blocks share a list:", b2)
	}
	if !slices.Equal(room, was) {
		t.Error("the list was changed")
	}
}
