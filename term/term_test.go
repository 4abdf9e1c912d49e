package term

import (
	"math"
	"math/big"
	"slices"
	"strconv"
	"testing"

	"tamis/api"
)

const (
	top = math.MaxUint32
	// longest is how many nodes a row has at most, written out; so is limit, what Size is held at: 2^50.
	longest        = 65536
	limit   uint64 = 1125899906842624
)

// The Ops of what is reckoned, written out.
const (
	add, sub, mul, div, or, and, lsh, rsh, neg, xor = 0x100, 0x110, 0x120, 0x130, 0x140, 0x150, 0x160, 0x170, 0x180, 0x1a0
)

var (
	two = []int{add, sub, mul, div, or, and, lsh, rsh, xor}
	all = append([]int{neg}, two...)
)

func num(k uint32) api.Node                  { return api.Node{Op: 1, K: k} }
func wrd(w uint32) api.Node                  { return api.Node{Op: 2, K: w} }
func of(op, a, b int) api.Node               { return api.Node{Op: op, A: a, B: b} }
func row(nodes ...api.Node) []api.Node       { return nodes }
func many(n api.Node, times int) []api.Node  { return slices.Repeat([]api.Node{n}, times) }
func long(head []api.Node, n int) []api.Node { return append(head, many(num(7), n-len(head))...) }

// behind is a row with a node behind it.
func behind(head []api.Node, n api.Node) []api.Node { return append(slices.Clone(head), n) }

// draw is numbers that look like any, the same ones at each run.
type draw uint64

func (d *draw) below(n int) int {
	*d = *d*6364136223846793005 + 1442695040888963407
	return int(uint64(*d) >> 33 % uint64(n))
}

// whole has another number in each of its words.
var whole = api.Record{200, 201, 202, 203, 204, 205, 206, 207, 208, 209, 210, 211, 212, 213, 214, 215}

// corners are words at which carries, signs and moves go wrong first.
var corners = []uint32{0, 1, 2, 3, 7, 31, 32, 33, 63, 64, 0xffff, 0x10000, 0x7fffffff, 0x80000000, 0xaaaaaaaa, top - 1, top}

// heads are rows of many lengths with nothing wrong.
func heads() [][]api.Node {
	return [][]api.Node{nil, {num(0)}, {wrd(0), num(top)}, {num(1), of(neg, 0, 0), of(add, 0, 1)}, many(wrd(15), 40), long(row(wrd(3), of(sub, 0, 0)), longest-1)}
}

// mayStand are nodes that may stand at a place, of each kind, at its limits.
func mayStand(at int) []api.Node {
	out := row(num(0), num(1), num(16), num(top), wrd(0), wrd(1), wrd(14), wrd(15))
	if at == 0 {
		return out
	}
	for _, op := range two {
		out = append(out, of(op, 0, 0), of(op, at-1, at-1), of(op, 0, at-1), of(op, at-1, 0), of(op, at/2, at/3))
	}
	return append(out, of(neg, 0, 0), of(neg, at-1, 0), of(neg, at/2, 0))
}

// mayNotStand are nodes of each kind with one thing wrong at a place.
func mayNotStand(at int) []api.Node {
	var out []api.Node
	for _, other := range []int{1, -1, 2, at + 1, math.MaxInt, math.MinInt} {
		for _, k := range []uint32{0, 3, 15} {
			out = append(out, api.Node{Op: 1, A: other, K: k}, api.Node{Op: 1, B: other, K: k}, api.Node{Op: 2, A: other, K: k}, api.Node{Op: 2, B: other, K: k})
		}
		out = append(out, of(neg, max(at-1, 0), other))
	}
	out = append(out, wrd(16), wrd(17), wrd(31), wrd(1<<31), wrd(top))
	last := max(at-1, 0)
	for _, no := range []int{at, at + 1, -1, -at - 1, math.MaxInt, math.MinInt, math.MinInt32, 1 << 32} {
		for _, op := range two {
			out = append(out, of(op, no, 0), of(op, last, no), of(op, no, no))
		}
		out = append(out, of(neg, no, 0))
	}
	for _, op := range all {
		for _, k := range []uint32{1, 2, 16, top} {
			out = append(out, api.Node{Op: op, K: k}, api.Node{Op: op, A: last, K: k})
		}
	}
	for _, op := range []int{0, 3, 4, 15, 16, 0x10, 0x50, 0x80, 0xa0, 0xff, 0x101, 0x102, 0x108, 0x190, 0x1a1, 0x1b0, 0x1c0, 0x1d0, 0x1e0, 0x1f0, 0x200, 0x280, 0x10100, -1, -2, -0x100, -0x80, 0x100 << 32, 1 << 32, 1<<32 + 1, 1<<32 + 0x100, math.MaxInt, math.MinInt, math.MinInt + 0x100, math.MinInt + 0x1a0} {
		out = append(out, of(op, 0, 0), api.Node{Op: op, K: 4}, of(op, last, last), of(op, last, 0))
	}
	return out
}

// checkCheck asks for what Check tells, and holds that it leaves the row as it is.
func checkCheck(t *testing.T, nodes []api.Node, at int, want api.Errno) {
	t.Helper()
	was := slices.Clone(nodes)
	if got, e := Check(nodes); got != at || e != want {
		t.Errorf("of %d nodes, the last ones %+v: %d %d, not %d %d", len(nodes), nodes[max(0, len(nodes)-3):], got, e, at, want)
	}
	if !slices.Equal(nodes, was) {
		t.Error("the row was changed")
	}
}

// P11.1: each kind of node may stand at the first place and at later ones, or may not, by what the chapter says of it.
func TestCheckNodes(t *testing.T) {
	for _, head := range heads() {
		at := len(head)
		for _, n := range mayStand(at) {
			checkCheck(t, behind(head, n), 0, api.OK)
		}
		if at > 40 {
			continue
		}
		for _, n := range mayNotStand(at) {
			checkCheck(t, behind(head, n), at, api.ErrForm)
			// what comes behind changes nothing, be it right or wrong
			checkCheck(t, append(behind(head, n), num(1), wrd(16), of(0x190, 0, 0)), at, api.ErrForm)
		}
	}
	// at the last place that there is
	head := long(row(wrd(3), of(sub, 0, 0)), longest-1)
	for _, n := range row(wrd(16), of(add, longest-1, 0), of(neg, longest-1, 0), of(neg, 0, 1), of(0x190, 0, 0), api.Node{}) {
		checkCheck(t, behind(head, n), longest-1, api.ErrForm)
	}
}

// P11.1: a node may look ahead at no place behind it, though there is one.
func TestCheckPartsBehind(t *testing.T) {
	for _, op := range two {
		checkCheck(t, row(num(1), of(op, 0, 2), num(2)), 1, api.ErrForm)
		checkCheck(t, row(num(1), of(op, 2, 0), num(2)), 1, api.ErrForm)
		checkCheck(t, row(num(1), num(2), of(op, 0, 1), of(op, 2, 1)), 0, api.OK)
	}
	checkCheck(t, row(num(1), of(neg, 2, 0), num(2)), 1, api.ErrForm)
}

// P11.1: too long a row is told ahead of all else; none may be.
func TestCheckLengths(t *testing.T) {
	checkCheck(t, nil, 0, api.OK)
	checkCheck(t, row(), 0, api.OK)
	for _, n := range row(num(3), wrd(15)) {
		checkCheck(t, many(n, longest-1), 0, api.OK)
		checkCheck(t, many(n, longest), 0, api.OK)
		checkCheck(t, many(n, longest+1), 0, api.ErrLong)
	}
	checkCheck(t, many(api.Node{}, longest), 0, api.ErrForm)
	checkCheck(t, many(api.Node{}, longest+1), 0, api.ErrLong)
	checkCheck(t, behind(many(num(0), longest), wrd(16)), 0, api.ErrLong)
	checkCheck(t, behind(many(num(0), longest-1), wrd(16)), longest-1, api.ErrForm)
	checkCheck(t, many(wrd(16), 1<<18), 0, api.ErrLong)
}

// badRows are rows that may not be.
func badRows() [][]api.Node {
	out := [][]api.Node{many(num(0), longest+1), many(api.Node{}, longest+1), behind(many(num(0), longest-1), wrd(16))}
	for _, head := range [][]api.Node{nil, {wrd(0)}, {num(1), of(neg, 0, 0), of(add, 0, 1)}} {
		for _, n := range mayNotStand(len(head)) {
			out = append(out, behind(head, n), append(behind(head, n), num(1)))
		}
	}
	return out
}

// checkRefused asks each function that is asked for one place, or for two, for the error, and for nothing beside it.
func checkRefused(t *testing.T, nodes []api.Node, at int, want api.Errno) {
	t.Helper()
	was := slices.Clone(nodes)
	tell := func(name string, nothing bool, e api.Errno) {
		t.Helper()
		if !nothing || e != want {
			t.Errorf("%s at %d of %d nodes: %d, not %d, or not nothing", name, at, len(nodes), e, want)
		}
	}
	n, e := Value(nodes, at, whole)
	tell("Value", n == 0, e)
	u, e := Uses(nodes, at)
	tell("Uses", u == 0, e)
	s, e := Size(nodes, at)
	tell("Size", s == 0, e)
	for _, other := range []int{at, 0} {
		a, e := Alike(nodes, at, other)
		tell("Alike", !a, e)
		a, e = Alike(nodes, other, at)
		tell("Alike", !a, e)
	}
	for _, roots := range [][]int{{at}, {at, 0}, {0, at}, {0, 0, 0, at, 0}, {at, at}} {
		out, places, e := Only(nodes, roots)
		tell("Only", out == nil && places == nil, e)
	}
	if !slices.Equal(nodes, was) {
		t.Error("the row was changed")
	}
}

// P11.1 and P11.2: of a row that may not be nothing is told but ErrForm, whatever place is asked for, were it one that isn't there.
func TestNoRow(t *testing.T) {
	for _, nodes := range badRows() {
		if v, e := Values(nodes, whole); v != nil || e != api.ErrForm {
			t.Errorf("Values of %d nodes: %d, %d", len(nodes), len(v), e)
		}
		if out, places, e := Only(nodes, nil); out != nil || places != nil || e != api.ErrForm {
			t.Errorf("Only of %d nodes: %d", len(nodes), e)
		}
		for _, at := range []int{0, len(nodes) - 1, len(nodes), -1, math.MaxInt, math.MinInt} {
			checkRefused(t, nodes, at, api.ErrForm)
		}
	}
}

// P11.1 and P11.2: no place is below 0, none at the row's length and behind it.
func TestNoPlace(t *testing.T) {
	for _, nodes := range [][]api.Node{nil, {}, {num(1)}, {wrd(0), wrd(1), of(add, 0, 1)}, {wrd(0), wrd(1), of(add, 0, 1), num(3)}, many(num(2), longest)} {
		for _, at := range []int{-1, -2, -len(nodes) - 1, len(nodes), len(nodes) + 1, longest, longest + 1, math.MaxInt, math.MinInt, math.MinInt32, 1 << 32} {
			checkRefused(t, nodes, at, api.ErrRange)
			checkRefused(t, slices.Clip(nodes), at, api.ErrRange)
		}
	}
	// what stands in the spare room is no part of the row
	roomy := row(num(1), num(2), num(3))[:1]
	checkRefused(t, roomy, 1, api.ErrRange)
}

// reckon is what comes of two words, in numbers of 64 bits.
func reckon(op int, a, b uint64) uint32 {
	switch op {
	case add:
		return uint32(a + b)
	case sub:
		return uint32(1<<32 + a - b)
	case mul:
		return uint32(a * b)
	case div:
		return uint32(a / max(b, 1) * min(b, 1))
	case or:
		return uint32(a | b)
	case and:
		return uint32(a & b)
	case lsh:
		return uint32(a << (b % 32))
	case rsh:
		return uint32(a >> (b % 32))
	case neg:
		return uint32(1<<32 - a)
	}
	return uint32((a | b) - (a & b))
}

// slow is a term's value, its tree gone through node by node.
func slow(nodes []api.Node, at int, r api.Record) uint32 {
	switch n := nodes[at]; n.Op {
	case 1:
		return n.K
	case 2:
		return r[n.K]
	case neg:
		return reckon(neg, uint64(slow(nodes, n.A, r)), 0)
	default:
		return reckon(n.Op, uint64(slow(nodes, n.A, r)), uint64(slow(nodes, n.B, r)))
	}
}

// checkValues asks Values and, at each place, Value.
func checkValues(t *testing.T, nodes []api.Node, r api.Record, want ...uint32) {
	t.Helper()
	was := slices.Clone(nodes)
	if got, e := Values(nodes, r); !slices.Equal(got, want) || e != api.OK {
		t.Fatalf("Values of %+v: %v %d, not %v", nodes, got, e, want)
	}
	for at := range nodes {
		if got, e := Value(nodes, at, r); got != want[at] || e != api.OK {
			t.Fatalf("Value of %+v at %d: %d %d, not %d", nodes, at, got, e, want[at])
		}
	}
	if !slices.Equal(nodes, was) {
		t.Fatal("the row was changed")
	}
}

// P11.1: values, found by hand.
func TestValuesByHand(t *testing.T) {
	checkValues(t, nil, whole)
	// the chapter's example
	checkValues(t, row(wrd(4), num(1), of(add, 0, 1)), api.Record{4: top}, top, 1, 0)
	checkValues(t, row(num(0)), whole, 0)
	checkValues(t, row(num(top), num(top)), whole, top, top)
	checkValues(t, row(wrd(0), wrd(15), wrd(7)), whole, 200, 215, 207)
	// of unlike numbers each Op comes to something else, the other way round, too
	a, b := num(100), num(7)
	for op, want := range map[int][2]uint32{
		add: {107, 107}, sub: {93, top - 92}, mul: {700, 700}, div: {14, 0}, or: {103, 103}, and: {4, 4}, lsh: {12800, 112}, rsh: {0, 0}, xor: {99, 99},
	} {
		checkValues(t, row(a, b, of(op, 0, 1), of(op, 1, 0)), whole, 100, 7, want[0], want[1])
	}
	checkValues(t, row(num(1<<31), num(3), of(rsh, 0, 1), of(rsh, 1, 0)), whole, 1<<31, 3, 1<<28, 3)
	// neg is of A alone
	checkValues(t, row(num(5), num(9), of(neg, 1, 0), of(neg, 0, 0), of(neg, 3, 0)), whole, 5, 9, top-8, top-4, 5)
	// a division by 0 comes to 0, whatever is divided, and by whatever 0
	checkValues(t, row(num(9), num(0), of(div, 0, 1), of(div, 1, 1), wrd(3), of(div, 0, 4), of(sub, 0, 0), of(div, 0, 6), of(add, 7, 0)), api.Record{}, 9, 0, 0, 0, 0, 0, 0, 0, 9)
	// one node twice in a tree
	checkValues(t, row(wrd(2), of(add, 0, 0), of(mul, 1, 1), of(sub, 2, 0)), api.Record{2: 10}, 10, 20, 400, 390)
}

// P11.1: each Op of all corners.
func TestValuesOfCorners(t *testing.T) {
	for _, a := range corners {
		for _, b := range corners {
			r := api.Record{3: a, 12: b}
			nodes, want := row(wrd(3), wrd(12), num(a), num(b)), []uint32{a, b, a, b}
			for _, op := range two {
				nodes, want = append(nodes, of(op, 0, 1), of(op, 2, 3)), append(want, reckon(op, uint64(a), uint64(b)), reckon(op, uint64(a), uint64(b)))
			}
			nodes, want = append(nodes, of(neg, 0, 0), of(neg, 3, 0)), append(want, reckon(neg, uint64(a), 0), reckon(neg, uint64(b), 0))
			checkValues(t, nodes, r, want...)
		}
	}
}

// P11.1: each word is the record's, and no other one.
func TestValuesOfWords(t *testing.T) {
	for w := range uint32(16) {
		checkValues(t, row(wrd(w)), whole, 200+w)
		var r api.Record
		r[w] = top
		for other := range uint32(16) {
			want := uint32(0)
			if other == w {
				want = top
			}
			checkValues(t, row(num(4), wrd(other)), r, 4, want)
		}
	}
}

// drawn is a row of n nodes, with few unlike numbers and words, so that many nodes stand twice. Parts stand at most so far ahead.
func drawn(d *draw, n, reach int) []api.Node {
	out := make([]api.Node, n)
	part := func(at int) int { return at - 1 - d.below(min(at, reach)) }
	for at := range out {
		switch k := d.below(10); {
		case at == 0 || k == 0:
			out[at] = num(uint32(d.below(3)))
		case k == 1:
			out[at] = num(corners[d.below(len(corners))])
		case k < 4:
			out[at] = wrd(uint32(d.below(3)) * 7)
		case k == 4:
			out[at] = of(neg, part(at), 0)
		case k == 5:
			out[at] = out[d.below(at)]
		default:
			out[at] = of(two[d.below(1+d.below(len(two)))], part(at), part(at))
		}
	}
	return out
}

// grown is a row in which all but the first node are reckoned, so that the trees are large.
func grown(d *draw, n, reach int) []api.Node {
	out := row(wrd(3))
	for at := 1; at < n; at++ {
		part := func() int { return at - 1 - d.below(min(at, reach)) }
		out = append(out, of(all[d.below(len(all))], part(), part()))
		if out[at].Op == neg {
			out[at].B = 0
		}
	}
	return out
}

// drawnRecord has corners for words.
func drawnRecord(d *draw) (r api.Record) {
	for w := range r {
		r[w] = corners[d.below(len(corners))]
	}
	return r
}

// P11.1: values of many rows, against trees gone through node by node.
func TestValuesDrawn(t *testing.T) {
	d := draw(11)
	for range 4000 {
		nodes := drawn(&d, 1+d.below(24), 1+d.below(24))
		r := drawnRecord(&d)
		var want []uint32
		for at := range nodes {
			want = append(want, slow(nodes, at, r))
		}
		checkValues(t, nodes, r, want...)
	}
}

// P11.1: the longest row, of the deepest tree.
func TestValuesLongest(t *testing.T) {
	nodes := row(wrd(9), num(3))
	want := []uint32{209, 3}
	for at := 2; at < longest; at++ {
		nodes = append(nodes, of(add, at-1, 0))
		want = append(want, want[at-1]+209)
	}
	got, e := Values(nodes, whole)
	if !slices.Equal(got, want) || e != api.OK {
		t.Fatalf("%d values, %d", len(got), e)
	}
	if n, e := Value(nodes, longest-1, whole); n != want[longest-1] || e != api.OK {
		t.Fatal(n, e)
	}
	if v, e := Values(append(nodes, num(1)), whole); v != nil || e != api.ErrForm {
		t.Fatal(len(v), e)
	}
}

// spelt is a term's tree, written out node by node.
func spelt(nodes []api.Node, at int) string {
	n := nodes[at]
	out := "(" + strconv.Itoa(n.Op) + " " + strconv.FormatUint(uint64(n.K), 10)
	if n.Op >= add {
		out += spelt(nodes, n.A)
	}
	if n.Op >= add && n.Op != neg {
		out += spelt(nodes, n.B)
	}
	return out + ")"
}

// through goes through a term's tree, node by node, and calls do with each place as often as it is met.
func through(nodes []api.Node, at int, do func(at int)) {
	do(at)
	n := nodes[at]
	if n.Op >= add {
		through(nodes, n.A, do)
	}
	if n.Op >= add && n.Op != neg {
		through(nodes, n.B, do)
	}
}

// checkTree asks Uses and Size of a term.
func checkTree(t *testing.T, nodes []api.Node, at int, uses uint16, size uint64) {
	t.Helper()
	was := slices.Clone(nodes)
	if got, e := Uses(nodes, at); got != uses || e != api.OK {
		t.Fatalf("Uses of %d nodes at %d: %x %d, not %x", len(nodes), at, got, e, uses)
	}
	if got, e := Size(nodes, at); got != size || e != api.OK {
		t.Fatalf("Size of %d nodes at %d: %d %d, not %d", len(nodes), at, got, e, size)
	}
	if !slices.Equal(nodes, was) {
		t.Fatal("the row was changed")
	}
}

// P11.2: words and numbers of nodes, found by hand.
func TestTreesByHand(t *testing.T) {
	for w := range uint32(16) {
		checkTree(t, row(num(w), wrd(w)), 1, 1<<w, 1)
		checkTree(t, row(num(w), wrd(w)), 0, 0, 1)
	}
	// what stands in the tree twice counts twice; what isn't in it counts nothing
	nodes := row(wrd(3), wrd(15), of(add, 0, 0), of(neg, 2, 0), of(sub, 3, 1), wrd(3), of(div, 4, 4), num(15), of(xor, 7, 5), of(neg, 8, 0))
	uses := []uint16{8, 1 << 15, 8, 8, 1<<15 | 8, 8, 1<<15 | 8, 0, 8, 8}
	for at, size := range []uint64{1, 1, 3, 4, 6, 1, 13, 1, 3, 4} {
		checkTree(t, nodes, at, uses[at], size)
	}
	// a word counts, though the value doesn't hang on it
	checkTree(t, row(wrd(0), num(0), of(mul, 0, 1), of(sub, 0, 0)), 2, 1, 3)
	checkTree(t, row(wrd(0), num(0), of(mul, 0, 1), of(sub, 0, 0)), 3, 1, 3)
	// neg has no B: what stands at the place 0 isn't in its tree
	checkTree(t, row(wrd(0), wrd(1), of(neg, 1, 0)), 2, 2, 2)
	checkTree(t, row(wrd(0), wrd(1), of(neg, 0, 0)), 2, 1, 2)
	// each Op has two parts but neg
	for _, op := range two {
		checkTree(t, row(wrd(4), wrd(9), num(1), of(op, 0, 1)), 3, 1<<4|1<<9, 3)
	}
	// all words
	nodes = row(wrd(0))
	for w := uint32(1); w < 16; w++ {
		nodes = append(nodes, wrd(w), of(or, len(nodes)-1, len(nodes)))
	}
	checkTree(t, nodes, len(nodes)-1, 0xffff, 31)
}

// checkSize asks for the size of a row's last term, held at 2^50.
func checkSize(t *testing.T, nodes []api.Node, want *big.Int) {
	t.Helper()
	held := limit
	if want.Cmp(new(big.Int).SetUint64(limit)) < 0 {
		held = want.Uint64()
	}
	if got, e := Size(nodes, len(nodes)-1); got != held || e != api.OK {
		t.Fatalf("Size of %d nodes: %d %d, not %d", len(nodes), got, e, held)
	}
}

// P11.2: Size about 2^50. A sum of a term and itself has twice the term's nodes, and one more: of 50 such ones 2^50 - 1 nodes.
func TestSizeHeld(t *testing.T) {
	size, nodes := big.NewInt(1), row(wrd(2))
	for len(nodes) < 200 {
		checkSize(t, nodes, size)
		// none, one or two nodes more
		more := new(big.Int).Set(size)
		longer := slices.Clone(nodes)
		for range 3 {
			longer = append(longer, of(neg, len(longer)-1, 0))
			checkSize(t, longer, more.Add(more, big.NewInt(1)))
		}
		longer = append(nodes, of(mul, len(nodes)-1, 0))
		checkSize(t, longer, more.Add(size, big.NewInt(2)))
		nodes = append(nodes, of(add, len(nodes)-1, len(nodes)-1))
		size.Mul(size, big.NewInt(2)).Add(size, big.NewInt(1))
	}
	for n, want := range map[int]uint64{49: limit - 1, 50: limit, 199: limit} {
		if got, e := Size(nodes, n); got != want || e != api.OK {
			t.Errorf("at %d: %d %d, not %d", n, got, e, want)
		}
	}
	// 2^50 - 1 and one more; two less
	for name, nodes := range map[string][]api.Node{"neg": behind(nodes[:50], of(neg, 49, 0)), "sum": behind(nodes[:50], of(add, 49, 0)), "held": behind(nodes[:60], of(add, 59, 58))} {
		if got, e := Size(nodes, len(nodes)-1); got != limit || e != api.OK {
			t.Error(name, got, e)
		}
	}
	nodes = append(slices.Clone(nodes[:49]), of(neg, 47, 0), of(add, 48, 49), of(add, 48, 47))
	for at, want := range map[int]uint64{48: limit/2 - 1, 49: limit / 4, 50: limit/2 + limit/4, 51: limit/2 + limit/4 - 1} {
		if got, e := Size(nodes, at); got != want || e != api.OK {
			t.Errorf("at %d: %d %d, not %d", at, got, e, want)
		}
	}
}

// P11.2: Size of many rows whose sizes are about 2^50, against numbers of any size.
func TestSizeDrawn(t *testing.T) {
	d := draw(50)
	below, above := 0, 0
	for range 1000 {
		nodes := grown(&d, 50+d.below(60), 1+d.below(3))
		var sizes []*big.Int
		for at, n := range nodes {
			size := big.NewInt(1)
			if n.Op >= add {
				size.Add(size, sizes[n.A])
			}
			if n.Op >= add && n.Op != neg {
				size.Add(size, sizes[n.B])
			}
			sizes = append(sizes, size)
			checkSize(t, nodes[:at+1], size)
			if bits := size.BitLen(); bits >= 51 {
				above++
			} else if bits > 45 {
				below++
			}
		}
	}
	if below < 100 || above < 100 {
		t.Errorf("%d just below, %d above", below, above)
	}
}

// checkAlike asks Alike of two terms, this way and the other way round.
func checkAlike(t *testing.T, nodes []api.Node, a, b int, want bool) {
	t.Helper()
	was := slices.Clone(nodes)
	for _, at := range [][2]int{{a, b}, {b, a}} {
		if got, e := Alike(nodes, at[0], at[1]); got != want || e != api.OK {
			t.Fatalf("Alike of %d nodes, at %v: %v %d", len(nodes), at, got, e)
		}
	}
	if !slices.Equal(nodes, was) {
		t.Fatal("the row was changed")
	}
}

// P11.2: trees that are the same, and trees that are unlike in one node alone.
func TestAlikeByHand(t *testing.T) {
	for _, n := range mayStand(0) {
		for _, other := range mayStand(0) {
			checkAlike(t, row(n, num(5), other), 0, 2, n == other)
		}
		checkAlike(t, row(n), 0, 0, true)
	}
	// each Op against each other one, of one part twice or of two that are the same
	for _, op := range all {
		for _, other := range all {
			nodes := row(wrd(1), num(2), wrd(1), num(2), of(op, 0, 0), of(other, 2, 0))
			if op == neg {
				nodes[4].B = 0
			}
			if other == neg {
				nodes[5].B = 0
			}
			checkAlike(t, nodes, 4, 5, op == other)
		}
	}
	for _, op := range two {
		nodes := row(wrd(1), num(2), num(2), wrd(1), of(op, 0, 1), of(op, 3, 2), of(op, 1, 0), of(op, 0, 0), of(op, 3, 0), of(op, 0, 2))
		checkAlike(t, nodes, 4, 5, true)
		checkAlike(t, nodes, 4, 9, true)
		checkAlike(t, nodes, 7, 8, true)
		// the order of A and B counts, whatever the Op
		checkAlike(t, nodes, 4, 6, false)
		checkAlike(t, nodes, 5, 6, false)
		checkAlike(t, nodes, 4, 7, false)
		// a term is none of its own parts
		checkAlike(t, nodes, 4, 0, false)
		checkAlike(t, nodes, 8, 3, false)
	}
	// the same value is not the same tree
	checkAlike(t, row(num(4), num(2), of(add, 1, 1), of(neg, 0, 0), of(neg, 3, 0)), 0, 2, false)
	checkAlike(t, row(num(4), num(2), of(add, 1, 1), of(neg, 0, 0), of(neg, 3, 0)), 0, 4, false)
	// unlike in one node far down: its K, its Op, a word for a number, the order of its parts
	for _, low := range [][2]api.Node{{num(4), num(5)}, {num(4), wrd(4)}, {wrd(4), wrd(5)}, {num(4), num(4)}} {
		nodes := row(low[0], low[1], num(9))
		nodes = append(nodes, of(sub, 0, 2), of(sub, 1, 2))
		for range 40 {
			nodes = append(nodes, of(mul, 2, len(nodes)-2), of(mul, 2, len(nodes)-1))
		}
		checkAlike(t, nodes, len(nodes)-2, len(nodes)-1, low[0] == low[1])
	}
	for _, low := range [][2]api.Node{{of(add, 0, 1), of(sub, 0, 1)}, {of(add, 0, 1), of(add, 1, 0)}, {of(neg, 0, 0), of(add, 0, 0)}, {of(neg, 0, 0), of(neg, 1, 0)}, {of(xor, 1, 1), of(xor, 1, 1)}} {
		nodes := row(num(8), wrd(8), low[0], low[1])
		for range 40 {
			nodes = append(nodes, of(and, len(nodes)-2, 0), of(and, len(nodes)-1, 0))
		}
		checkAlike(t, nodes, len(nodes)-2, len(nodes)-1, low[0] == low[1])
	}
}

// P11.2: trees of far more nodes than could be gone through, in one row, alike or unlike at the bottom.
func TestAlikeOfHugeTrees(t *testing.T) {
	for _, low := range [][2]api.Node{{wrd(0), wrd(0)}, {wrd(0), wrd(1)}} {
		nodes := row(low[0], low[1])
		for len(nodes) < longest {
			nodes = append(nodes, of(add, len(nodes)-2, len(nodes)-2), of(add, len(nodes)-1, len(nodes)-1))
		}
		checkAlike(t, nodes, longest-2, longest-1, low[0] == low[1])
		checkAlike(t, nodes, longest-2, longest-4, false)
		checkAlike(t, nodes, 200, 201, low[0] == low[1])
	}
}

// P11.2: each two terms of many rows, against their trees, written out.
func TestAlikeDrawn(t *testing.T) {
	d := draw(2)
	alike := 0
	for range 4000 {
		nodes := drawn(&d, 1+d.below(16), 1+d.below(16))
		var texts []string
		for at := range nodes {
			texts = append(texts, spelt(nodes, at))
		}
		for a := range nodes {
			for b := range a + 1 {
				checkAlike(t, nodes, a, b, texts[a] == texts[b])
				if a != b && texts[a] == texts[b] && nodes[a].Op >= add {
					alike++
				}
			}
		}
	}
	if alike < 1000 {
		t.Errorf("no more than %d are alike", alike)
	}
}

// P11.2: Uses and Size of many rows, against trees gone through node by node.
func TestTreesDrawn(t *testing.T) {
	d := draw(3)
	for range 4000 {
		nodes := drawn(&d, 1+d.below(20), 1+d.below(20))
		for at := range nodes {
			uses, size := uint16(0), uint64(0)
			through(nodes, at, func(i int) {
				size++
				if nodes[i].Op == 2 {
					uses |= 1 << nodes[i].K
				}
			})
			checkTree(t, nodes, at, uses, size)
		}
	}
}

// checkOnly asks for what is left of a row, and where the roots stand then; it may be, and holds at the roots what the row does there.
func checkOnly(t *testing.T, nodes []api.Node, roots []int, want []api.Node, places []int) {
	t.Helper()
	was, asked := slices.Clone(nodes), slices.Clone(roots)
	out, at, e := Only(nodes, roots)
	if !slices.Equal(out, want) || !slices.Equal(at, places) || e != api.OK {
		t.Fatalf("Only %v of %+v:\n%+v %v %d, not\n%+v %v", roots, nodes, out, at, e, want, places)
	}
	if !slices.Equal(nodes, was) || !slices.Equal(roots, asked) {
		t.Fatal("what was handed in was changed")
	}
	left, e1 := Values(out, whole)
	before, e2 := Values(nodes, whole)
	if e1 != api.OK || e2 != api.OK {
		t.Fatal(e1, e2)
	}
	for i, root := range roots {
		if left[at[i]] != before[root] {
			t.Fatalf("Only %v of %+v: another value at %d", roots, nodes, root)
		}
	}
}

// P11.2: Only, found by hand.
func TestOnlyByHand(t *testing.T) {
	nodes := row(num(7), wrd(3), of(neg, 1, 0), num(8), of(sub, 3, 2), of(div, 0, 3), of(neg, 4, 0))
	checkOnly(t, nil, nil, nil, nil)
	checkOnly(t, nodes, nil, nil, nil)
	checkOnly(t, nodes, []int{}, nil, nil)
	checkOnly(t, nodes, []int{0}, row(num(7)), []int{0})
	checkOnly(t, nodes, []int{1}, row(wrd(3)), []int{0})
	// neg has no B: what stands at the place 0 isn't in its tree
	checkOnly(t, nodes, []int{2}, row(wrd(3), of(neg, 0, 0)), []int{1})
	checkOnly(t, nodes, []int{4}, row(wrd(3), of(neg, 0, 0), num(8), of(sub, 2, 1)), []int{3})
	checkOnly(t, nodes, []int{6}, row(wrd(3), of(neg, 0, 0), num(8), of(sub, 2, 1), of(neg, 3, 0)), []int{4})
	checkOnly(t, nodes, []int{5}, row(num(7), num(8), of(div, 0, 1)), []int{2})
	// all of it
	checkOnly(t, nodes, []int{6, 5}, nodes, []int{6, 5})
	// one root twice, roots in any order, one root in another one's tree
	checkOnly(t, nodes, []int{3, 3}, row(num(8)), []int{0, 0})
	checkOnly(t, nodes, []int{5, 3, 5, 0}, row(num(7), num(8), of(div, 0, 1)), []int{2, 1, 2, 0})
	checkOnly(t, nodes, []int{3, 1, 0}, row(num(7), wrd(3), num(8)), []int{2, 1, 0})
	checkOnly(t, nodes, []int{0, 1, 3}, row(num(7), wrd(3), num(8)), []int{0, 1, 2})
	checkOnly(t, nodes, []int{2, 4, 1}, row(wrd(3), of(neg, 0, 0), num(8), of(sub, 2, 1)), []int{1, 3, 0})
	// what stands in a tree twice is left once
	checkOnly(t, row(num(1), wrd(2), of(add, 1, 1), of(mul, 2, 2)), []int{3}, row(wrd(2), of(add, 0, 0), of(mul, 1, 1)), []int{2})
	// parts that hadn't the place 0 come to have it, and the other way round
	for _, op := range two {
		checkOnly(t, row(num(1), num(2), wrd(3), of(op, 2, 1)), []int{3}, row(num(2), wrd(3), of(op, 1, 0)), []int{2})
		checkOnly(t, row(num(1), num(2), wrd(3), of(op, 0, 2)), []int{3}, row(num(1), wrd(3), of(op, 0, 1)), []int{2})
	}
}

// P11.2: rows in which a node stands twice: each of its places is a term of its own, that stays, if it is in a tree, and goes, if it isn't.
func TestOnlyOfTwice(t *testing.T) {
	nodes := row(wrd(5), num(3), wrd(5), of(add, 0, 1), of(add, 2, 1), num(3), of(add, 0, 1))
	checkOnly(t, nodes, []int{0, 2}, row(wrd(5), wrd(5)), []int{0, 1})
	checkOnly(t, nodes, []int{2, 0}, row(wrd(5), wrd(5)), []int{1, 0})
	checkOnly(t, nodes, []int{2}, row(wrd(5)), []int{0})
	checkOnly(t, nodes, []int{4}, row(num(3), wrd(5), of(add, 1, 0)), []int{2})
	checkOnly(t, nodes, []int{3}, row(wrd(5), num(3), of(add, 0, 1)), []int{2})
	checkOnly(t, nodes, []int{6, 3}, row(wrd(5), num(3), of(add, 0, 1), of(add, 0, 1)), []int{3, 2})
	checkOnly(t, nodes, []int{5, 4}, row(num(3), wrd(5), of(add, 1, 0), num(3)), []int{3, 2})
}

// P11.2: Only of many rows, against trees gone through node by node.
func TestOnlyDrawn(t *testing.T) {
	d := draw(4)
	for range 12000 {
		nodes := drawn(&d, 1+d.below(18), 1+d.below(18))
		roots := make([]int, d.below(5))
		for i := range roots {
			roots[i] = d.below(len(nodes))
		}
		var in []int
		for _, root := range roots {
			through(nodes, root, func(at int) { in = append(in, at) })
		}
		slices.Sort(in)
		in = slices.Compact(in)
		stands := func(at int) int { return slices.Index(in, at) }
		var want []api.Node
		for _, at := range in {
			n := nodes[at]
			if n.Op >= add {
				n.A = stands(n.A)
			}
			if n.Op >= add && n.Op != neg {
				n.B = stands(n.B)
			}
			want = append(want, n)
		}
		var places []int
		for _, root := range roots {
			places = append(places, stands(root))
		}
		checkOnly(t, nodes, roots, want, places)
	}
}

// P11.2: Only of the longest row, of one deep tree, and with very many roots.
func TestOnlyLongest(t *testing.T) {
	nodes := row(num(1), wrd(9))
	for at := 2; at < longest; at++ {
		nodes = append(nodes, of(add, at-1, at-2))
	}
	checkOnly(t, nodes, []int{longest - 1}, nodes, []int{longest - 1})
	checkOnly(t, nodes, []int{3}, nodes[:4], []int{3})
	roots := make([]int, 1<<18)
	for i := range roots {
		roots[i] = (longest - 1 - i) & 0x7fff
	}
	checkOnly(t, nodes, roots, nodes[:1<<15], roots)
}

// checkPool asks for all nodes of a pool, one by one, too.
func checkPool(t *testing.T, p *Pool, want ...api.Node) {
	t.Helper()
	if got := p.Nodes(); !slices.Equal(got, want) {
		t.Fatalf("a pool of %d nodes, not of %d, or others", len(got), len(want))
	}
	for at, n := range want {
		if got, ok := p.At(at); got != n || !ok {
			t.Fatalf("at %d: %+v %v, not %+v", at, got, ok, n)
		}
	}
	for _, at := range []int{-1, -2, -len(want) - 1, len(want), len(want) + 1, longest, math.MaxInt, math.MinInt, 1 << 32, -1 << 32} {
		if got, ok := p.At(at); got != (api.Node{}) || ok {
			t.Fatalf("at %d of %d: %+v %v", at, len(want), got, ok)
		}
	}
}

// checkPut asks where a node stands.
func checkPut(t *testing.T, p *Pool, n api.Node, at int, want api.Errno) {
	t.Helper()
	if got, e := p.Put(n); got != at || e != want {
		t.Fatalf("%+v: %d %d, not %d %d", n, got, e, at, want)
	}
}

// P11.3: calls of a nil pool answer, and change nothing.
func TestNilPool(t *testing.T) {
	var none *Pool
	for _, n := range append(mayStand(3), mayNotStand(0)...) {
		checkPut(t, none, n, 0, api.ErrNil)
	}
	checkPool(t, none)
	if none.Nodes() != nil || none != nil {
		t.Error("nil isn't nil")
	}
}

// P11.3: an empty pool, made by New or the zero one; two of them share nothing.
func TestEmptyPool(t *testing.T) {
	a, b := New(), New()
	var zero Pool
	for _, p := range []*Pool{a, b, &zero} {
		if p == nil {
			t.Fatal("no pool")
		}
		checkPool(t, p)
		for _, n := range mayNotStand(0) {
			checkPut(t, p, n, 0, api.ErrForm)
		}
		checkPool(t, p)
	}
	checkPut(t, a, wrd(3), 0, api.OK)
	checkPool(t, b)
	checkPut(t, b, num(9), 0, api.OK)
	checkPut(t, b, wrd(3), 1, api.OK)
	checkPool(t, a, wrd(3))
	checkPool(t, b, num(9), wrd(3))
	checkPut(t, &zero, num(9), 0, api.OK)
	checkPut(t, &zero, num(9), 0, api.OK)
	checkPut(t, &zero, of(neg, 0, 0), 1, api.OK)
	checkPool(t, &zero, num(9), of(neg, 0, 0))
}

// P11.3: a node that is there has its place; one that may not stand at the next place is refused, and leaves the pool as it is; else it comes behind the last one.
func TestPutByHand(t *testing.T) {
	p := New()
	var want []api.Node
	for at := range 6 {
		for _, n := range mayNotStand(at) {
			checkPut(t, p, n, 0, api.ErrForm)
		}
		checkPool(t, p, want...)
		// unlike the others in one thing alone
		n := row(num(3), wrd(3), of(sub, 0, 1), of(sub, 1, 0), of(neg, 1, 0), of(xor, 0, 1))[at]
		checkPut(t, p, n, at, api.OK)
		want = append(want, n)
		for i, old := range want {
			checkPut(t, p, old, i, api.OK)
		}
		checkPool(t, p, want...)
	}
	// what looks ahead may stand later on
	checkPut(t, p, of(add, 0, 6), 0, api.ErrForm)
	checkPut(t, p, num(4), 6, api.OK)
	checkPut(t, p, of(add, 0, 6), 7, api.OK)
	checkPut(t, p, num(4), 6, api.OK)
	checkPool(t, p, append(want, num(4), of(add, 0, 6))...)
}

// P11.3: each kind of node is found again, and no two are taken for one.
func TestPutMany(t *testing.T) {
	p := New()
	var want []api.Node
	for len(want) < 3000 {
		for _, n := range mayStand(len(want)) {
			place := slices.Index(want, n)
			if place < 0 {
				place = len(want)
				want = append(want, n)
			}
			checkPut(t, p, n, place, api.OK)
		}
	}
	checkPool(t, p, want...)
	if at, e := Check(p.Nodes()); at != 0 || e != api.OK {
		t.Error(at, e)
	}
}

// P11.3: pools against lists that are looked through from the front on, many drawn ones.
func TestPutDrawn(t *testing.T) {
	d := draw(5)
	for range 600 {
		p := New()
		var want []api.Node
		for range 60 {
			n := drawn(&d, 1+len(want), 1+d.below(6))[len(want)]
			if d.below(6) == 0 {
				n.A += d.below(3)
			}
			at, e := slices.Index(want, n), api.OK
			switch _, bad := Check(append(slices.Clone(want), n)); {
			case bad != api.OK:
				at, e = 0, api.ErrForm
			case at < 0:
				at = len(want)
				want = append(want, n)
			}
			checkPut(t, p, n, at, e)
		}
		checkPool(t, p, want...)
	}
}

// P11.3: 65536 nodes have room, and none behind them; what is there is found still, and what may not stand is told ahead of that.
func TestPutFull(t *testing.T) {
	p := New()
	var want []api.Node
	for at := range longest {
		n := num(uint32(at) * 0x10001)
		if at%2 == 1 {
			n = of(sub, at-1, at/2)
		}
		want = append(want, n)
		checkPut(t, p, n, at, api.OK)
	}
	checkPool(t, p, want...)
	for range 2 {
		for _, n := range row(num(1), num(top), wrd(0), wrd(15), of(add, 0, 0), of(add, longest-1, longest-1), of(neg, longest-1, 0), of(sub, 1, 0)) {
			checkPut(t, p, n, 0, api.ErrLong)
		}
		for _, n := range row(api.Node{}, wrd(16), of(add, longest, 0), of(add, 0, longest), of(neg, longest, 0), of(neg, 0, 1), of(0x190, 0, 0)) {
			checkPut(t, p, n, 0, api.ErrForm)
		}
		for at, n := range want {
			checkPut(t, p, n, at, api.OK)
		}
		checkPool(t, p, want...)
	}
}

// P11.3, and rules 3, 4 and 6: answers are new memory, arguments and their spare room stay, and a call asked again tells the same.
func TestNothingShared(t *testing.T) {
	nodes := append(make([]api.Node, 0, 20), num(5), wrd(6), of(sub, 1, 0), num(7), of(neg, 2, 0))
	room, was := nodes[:20], slices.Clone(nodes[:20])
	roots := append(make([]int, 0, 20), 4, 4, 0)
	more, had := roots[:20], slices.Clone(roots[:20])
	for range 2 {
		values, e := Values(nodes, whole)
		if e != api.OK || !slices.Equal(values, []uint32{5, 206, 201, 7, top - 200}) {
			t.Fatal(values, e)
		}
		out, places, e := Only(nodes, roots)
		if e != api.OK || !slices.Equal(out, row(num(5), wrd(6), of(sub, 1, 0), of(neg, 2, 0))) || !slices.Equal(places, []int{3, 3, 0}) {
			t.Fatal(out, places, e)
		}
		everything, _, _ := Only(nodes, []int{4, 3})
		if same, e := Alike(nodes, 2, 2); !same || e != api.OK {
			t.Fatal(e)
		}
		if at, e := Check(nodes); at != 0 || e != api.OK {
			t.Fatal(at, e)
		}
		for _, at := range []int{0, 4} {
			Value(nodes, at, whole)
			Uses(nodes, at)
			Size(nodes, at)
		}
		if !slices.Equal(room, was) || !slices.Equal(more, had) {
			t.Fatal("an argument was changed")
		}
		clear(values[:cap(values)])
		clear(out[:cap(out)])
		clear(everything[:cap(everything)])
		for i := range places[:cap(places)] {
			places[:cap(places)][i] = -9
		}
		if !slices.Equal(room, was) || !slices.Equal(more, had) {
			t.Fatal("an answer is an argument's memory")
		}
	}
	p := New()
	for at, n := range nodes {
		checkPut(t, p, n, at, api.OK)
		told := p.Nodes()
		clear(told[:cap(told)])
		told = append(p.Nodes(), num(99))
		told[0] = num(98)
		checkPool(t, p, nodes[:at+1]...)
	}
	for at, n := range nodes {
		checkPut(t, p, n, at, api.OK)
	}
	// what was told stays, though the pool grows
	told := p.Nodes()
	checkPut(t, p, num(98), 5, api.OK)
	if !slices.Equal(told, nodes) {
		t.Error("what was told was changed")
	}
	checkPool(t, p, append(slices.Clone(nodes), num(98))...)
}

// Rule 3: nil and an empty list are one.
func TestNilIsEmpty(t *testing.T) {
	for _, nodes := range [][]api.Node{nil, {}} {
		if v, e := Values(nodes, whole); len(v) != 0 || e != api.OK {
			t.Error(v, e)
		}
		for _, roots := range [][]int{nil, {}} {
			checkOnly(t, nodes, roots, nil, nil)
		}
	}
}
