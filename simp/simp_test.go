package simp

import (
	"fmt"
	"math"
	"slices"
	"testing"

	"tamis/api"
	"tamis/term"
)

const (
	top = math.MaxUint32
	// longest is how many nodes a row and a pool have at most, written out.
	longest = 65536
)

// The ops, written out.
const (
	add, sub, mul, div, or, and, lsh, rsh, neg, xor = 0x00, 0x10, 0x20, 0x30, 0x40, 0x50, 0x60, 0x70, 0x80, 0xa0
)

var (
	two     = []int{add, sub, mul, div, or, and, lsh, rsh, xor}
	all     = append([]int{neg}, two...)
	turning = []int{add, mul, or, and, xor}
	// corners are the numbers at which rules begin and end.
	corners = []uint32{0, 1, 2, 5, 31, 32, 33, 64, 1 << 31, top - 1, top}
)

// tree is a term, written out: a number (op -1), a word (op -2), or what is reckoned.
type tree struct {
	op   int
	k    uint32
	a, b *tree
}

func num(k uint32) *tree                   { return &tree{op: -1, k: k} }
func wrd(w uint32) *tree                   { return &tree{op: -2, k: w} }
func of(op int, a, b *tree) *tree          { return &tree{op: op, a: a, b: b} }
func not(a *tree) *tree                    { return &tree{op: neg, a: a} }
func with(op int, a *tree, k uint32) *tree { return of(op, a, num(k)) }

func (t *tree) String() string {
	switch {
	case t.op == -1:
		return fmt.Sprintf("%d", t.k)
	case t.op == -2:
		return fmt.Sprintf("w%d", t.k)
	case t.op == neg:
		return fmt.Sprintf("(-%v)", t.a)
	}
	return fmt.Sprintf("(%v %x %v)", t.a, t.op, t.b)
}

// parts is a tree's own parts.
func (t *tree) parts() []*tree {
	switch {
	case t.op < 0:
		return nil
	case t.op == neg:
		return []*tree{t.a}
	}
	return []*tree{t.a, t.b}
}

// each tells the trees that a tree is made of, by how they are written, each once.
func (t *tree) each(seen map[string]bool) map[string]bool {
	for _, part := range t.parts() {
		part.each(seen)
	}
	seen[t.String()] = true
	return seen
}

// grown is the tree of a term.
func grown(nodes []api.Node, at int) *tree {
	switch n := nodes[at]; n.Op {
	case 1:
		return num(n.K)
	case 2:
		return wrd(n.K)
	case 0x180:
		return not(grown(nodes, n.A))
	default:
		return of(n.Op-0x100, grown(nodes, n.A), grown(nodes, n.B))
	}
}

// lay puts a tree into a pool as it is, by no rule.
func lay(t *testing.T, p *term.Pool, what *tree) int {
	t.Helper()
	n := api.Node{Op: what.op + 0x100}
	switch parts := what.parts(); {
	case len(parts) == 0:
		n = api.Node{Op: -what.op, K: what.k}
	case len(parts) == 1:
		n.A = lay(t, p, parts[0])
	default:
		n.A, n.B = lay(t, p, parts[0]), lay(t, p, parts[1])
	}
	at, e := p.Put(n)
	if e != api.OK {
		t.Fatalf("%v has no place: %d", what, e)
	}
	return at
}

// reckon is what comes of two words, in numbers of 64 bits.
func reckon(op int, a, b uint64) uint32 {
	switch op {
	case add:
		return uint32(a + b)
	case sub:
		return uint32(1<<32 + a - b)
	case mul:
		return uint32(a * b)
	case div:
		return uint32(a / max(b, 1) * min(b, 1))
	case or:
		return uint32(a | b)
	case and:
		return uint32(a & b)
	case lsh:
		return uint32(a << (b % 32))
	case rsh:
		return uint32(a >> (b % 32))
	case neg:
		return uint32(1<<32 - a)
	}
	return uint32((a | b) - (a & b))
}

func numbers(op int, a, b *tree) *tree { return num(reckon(op, uint64(a.k), uint64(b.k))) }

// value is a tree's value.
func (t *tree) value(r api.Record) uint32 {
	switch {
	case t.op == -1:
		return t.k
	case t.op == -2:
		return r[t.k]
	case t.op == neg:
		return reckon(neg, uint64(t.a.value(r)), 0)
	}
	return reckon(t.op, uint64(t.a.value(r)), uint64(t.b.value(r)))
}

// told is what the rules tell of an op of two trees, the chapter's words one by one. Of a pool, trees that are the same stand at one place.
func told(op int, a, b *tree) *tree {
	if op == neg {
		switch {
		case a.op == -1:
			return numbers(neg, a, a)
		case a.op == neg:
			return a.a
		}
		return not(a)
	}
	if a.op == -1 && b.op == -1 {
		return numbers(op, a, b)
	}
	if a.op == -1 && slices.Contains(turning, op) {
		return told(op, b, a)
	}
	if b.op == -1 {
		if op == lsh || op == rsh {
			b = num(b.k % 32)
		}
		switch is := func(k uint32, ops ...int) bool { return b.k == k && slices.Contains(ops, op) }; {
		case is(0, add, sub, or, xor, lsh, rsh), is(1, mul, div), is(top, and):
			return a
		case is(0, mul, and, div):
			return num(0)
		case is(top, or):
			return num(top)
		case slices.Contains(turning, op) && a.op == op && a.b.op == -1:
			return told(op, a.a, numbers(op, a.b, b))
		}
		return of(op, a, b)
	}
	if a.String() == b.String() {
		switch op {
		case sub, xor:
			return num(0)
		case or, and:
			return a
		}
	}
	return of(op, a, b)
}

// renewed is a tree made anew, from what it is made of on.
func renewed(t *tree) *tree {
	switch parts := t.parts(); len(parts) {
	case 0:
		return t
	case 1:
		return told(neg, renewed(t.a), nil)
	}
	return told(t.op, renewed(t.a), renewed(t.b))
}

// draw is numbers that look like any, the same ones at each run.
type draw uint64

func (d *draw) below(n int) int {
	*d = *d*6364136223846793005 + 1442695040888963407
	return int(uint64(*d) >> 33 % uint64(n))
}

func (d *draw) record() (r api.Record) {
	for w := range r {
		r[w] = corners[d.below(len(corners))] + uint32(d.below(2)*d.below(math.MaxInt32))
	}
	return r
}

// records are some at which carries, signs and moves go wrong first.
func records() []api.Record {
	out := []api.Record{{}, {200, 201, 202, 203, 204, 205, 206, 207, 208, 209, 210, 211, 212, 213, 214, 215}}
	for d, i := draw(12), 0; i < 12; i++ {
		out = append(out, d.record())
	}
	return out
}

// poolOf is a pool of trees as they are, and where they stand.
func poolOf(t *testing.T, trees ...*tree) (*term.Pool, []int) {
	t.Helper()
	p := term.New()
	var places []int
	for _, what := range trees {
		places = append(places, lay(t, p, what))
	}
	return p, places
}

// checkKept holds that a pool has all that it had, where it was, and how many nodes it has.
func checkKept(t *testing.T, p *term.Pool, was []api.Node, now int) {
	t.Helper()
	nodes := p.Nodes()
	if len(nodes) < len(was) || !slices.Equal(nodes[:len(was)], was) {
		t.Fatal("what stood in the pool doesn't any more")
	}
	if len(nodes) != now {
		t.Fatalf("the pool has %d nodes, not %d", len(nodes), now)
	}
}

// missing is how many nodes of a tree a pool hasn't got.
func missing(t *testing.T, p *term.Pool, want *tree) int {
	t.Helper()
	more := term.New()
	had := p.Nodes()
	for _, n := range had {
		more.Put(n)
	}
	lay(t, more, want)
	return len(more.Nodes()) - len(had)
}

// checkMake asks for an op of two trees, and holds the answer against what is wanted, and against the values.
func checkMake(t *testing.T, op int, a, b, want *tree) {
	t.Helper()
	p, at := poolOf(t, a, b)
	was := p.Nodes()
	need := missing(t, p, want)
	got, e := Make(p, op, at[0], at[1])
	if e != api.OK {
		t.Fatalf("%v %x %v: %d", a, op, b, e)
	}
	checkKept(t, p, was, len(was)+need)
	if is := grown(p.Nodes(), got); is.String() != want.String() {
		t.Fatalf("%v %x %v: %v, not %v", a, op, b, is, want)
	}
	for _, r := range records() {
		value, _ := term.Value(p.Nodes(), got, r)
		if told := reckon(op, uint64(a.value(r)), uint64(b.value(r))); value != told {
			t.Fatalf("%v %x %v: %d, not %d", a, op, b, value, told)
		}
	}
	again, e := Make(p, op, at[0], at[1])
	if again != got || e != api.OK {
		t.Fatalf("%v %x %v: %d, and %d once more", a, op, b, got, again)
	}
	checkKept(t, p, was, len(was)+need)
}

// fill puts numbers that nothing else has into a pool, till so many nodes are in it.
func fill(p *term.Pool, nodes int) {
	for k := uint32(0x5a000000); ; k++ {
		if _, is := p.At(nodes - 1); is {
			return
		}
		p.Put(api.Node{Op: 1, K: k})
	}
}

// checkRoom asks for an op of two trees of pools that have the room that is needed, that have one place less, and that have none, but the term.
func checkRoom(t *testing.T, op int, a, b, want *tree) {
	t.Helper()
	p, at := poolOf(t, a, b)
	need := missing(t, p, want)
	fill(p, longest-need)
	was := p.Nodes()
	got, e := Make(p, op, at[0], at[1])
	if e != api.OK || grown(p.Nodes(), got).String() != want.String() {
		t.Fatalf("%v %x %v, with room for %d: %d", a, op, b, need, e)
	}
	checkKept(t, p, was, longest)
	again, e := Make(p, op, at[0], at[1])
	if again != got || e != api.OK {
		t.Fatalf("%v %x %v, in a full pool: %d %d", a, op, b, again, e)
	}
	checkKept(t, p, was, longest)
	for left := range need {
		p, at = poolOf(t, a, b)
		fill(p, longest-left)
		was = p.Nodes()
		if got, e := Make(p, op, at[0], at[1]); got != 0 || e != api.ErrLong {
			t.Fatalf("%v %x %v, with room for %d of %d: %d %d", a, op, b, left, need, got, e)
		}
		if is := p.Nodes(); !slices.Equal(is[:len(was)], was) {
			t.Fatal("what stood in the pool doesn't any more")
		}
	}
}

// made is what the rules tell of an op of two terms, found by hand.
type made struct {
	op         int
	a, b, want *tree
}

// w0 and w1 are words, and one is what is reckoned of both.
var (
	w0, w1 = wrd(0), wrd(15)
	one    = of(sub, w0, w1)
)

// alone are terms that no rule turns, as one of each op.
func alone() []*tree {
	out := []*tree{w0, w1, not(w0), with(add, w1, 5), with(lsh, w0, 31), with(div, w0, 2)}
	for _, op := range two {
		out = append(out, of(op, w0, w1))
	}
	return out
}

// byHand is one term by each rule, and those beside it where no rule fits.
func byHand() []made {
	return []made{
		// the chapter's examples
		{add, with(add, w0, 5), num(7), with(add, w0, 12)}, {sub, w0, w0, num(0)},
		// two numbers
		{add, num(top), num(3), num(2)}, {sub, num(1), num(2), num(top)}, {mul, num(1 << 31), num(2), num(0)}, {div, num(9), num(2), num(4)}, {div, num(9), num(0), num(0)}, {div, num(0), num(0), num(0)},
		{or, num(5), num(6), num(7)}, {and, num(5), num(6), num(4)}, {xor, num(5), num(6), num(3)}, {lsh, num(3), num(33), num(6)}, {rsh, num(8), num(64), num(8)}, {neg, num(1), num(4), num(top)}, {neg, num(0), w0, num(0)}, {neg, num(1 << 31), w0, num(1 << 31)},
		// a number on the left
		{add, num(3), w0, with(add, w0, 3)}, {mul, num(3), w0, with(mul, w0, 3)}, {or, num(3), w0, with(or, w0, 3)}, {and, num(3), w0, with(and, w0, 3)}, {xor, num(3), w0, with(xor, w0, 3)},
		{add, num(0), w0, w0}, {mul, num(1), w0, w0}, {mul, num(0), w0, num(0)}, {and, num(0), w0, num(0)}, {and, num(top), w0, w0}, {or, num(top), w0, num(top)}, {or, num(0), w0, w0}, {xor, num(0), w0, w0},
		{add, num(7), with(add, w0, 5), with(add, w0, 12)}, {mul, num(7), with(mul, w0, 5), with(mul, w0, 35)}, {add, num(top), with(add, w0, 1), w0},
		{sub, num(0), w0, of(sub, num(0), w0)}, {div, num(0), w0, of(div, num(0), w0)}, {div, num(1), w0, of(div, num(1), w0)}, {lsh, num(0), w0, of(lsh, num(0), w0)}, {rsh, num(0), w0, of(rsh, num(0), w0)},
		// a number on the right that leaves, or swallows
		{add, w0, num(0), w0}, {sub, w0, num(0), w0}, {or, w0, num(0), w0}, {xor, w0, num(0), w0}, {lsh, w0, num(0), w0}, {rsh, w0, num(0), w0}, {mul, w0, num(1), w0}, {div, w0, num(1), w0}, {and, w0, num(top), w0},
		{mul, w0, num(0), num(0)}, {and, w0, num(0), num(0)}, {div, w0, num(0), num(0)}, {or, w0, num(top), num(top)},
		{mul, w0, num(top), with(mul, w0, top)}, {and, w0, num(1), with(and, w0, 1)}, {or, w0, num(1), with(or, w0, 1)}, {div, w0, num(top), with(div, w0, top)}, {xor, w0, num(top), with(xor, w0, top)}, {sub, w0, num(1), with(sub, w0, 1)}, {add, w0, num(top), with(add, w0, top)},
		// moves by 32 and more
		{lsh, w0, num(32), w0}, {rsh, w0, num(32), w0}, {lsh, w0, num(64), w0}, {rsh, w0, num(1 << 31), w0}, {lsh, w0, num(31), with(lsh, w0, 31)}, {lsh, w0, num(33), with(lsh, w0, 1)}, {rsh, w0, num(33), with(rsh, w0, 1)}, {rsh, w0, num(40), with(rsh, w0, 8)}, {lsh, w0, num(top), with(lsh, w0, 31)},
		{lsh, of(add, w0, num(1)), num(33), with(lsh, of(add, w0, num(1)), 1)},
		// the same op of a term and a number
		{add, with(add, w0, 5), num(top - 4), w0}, {add, with(add, w0, 5), num(top - 5), with(add, w0, top)}, {add, with(add, w0, 5), num(top - 3), with(add, w0, 1)},
		{mul, with(mul, w0, 3), num(0xaaaaaaab), w0}, {mul, with(mul, w0, 1<<16), num(1 << 16), num(0)}, {mul, with(mul, w0, 3), num(0x55555555), with(mul, w0, top)},
		{or, with(or, w0, 0xffff0000), num(0xffff), num(top)}, {or, with(or, w0, 5), num(5), with(or, w0, 5)}, {and, with(and, w0, 0xf0), num(0xf), num(0)}, {and, with(and, w0, 0xf0), num(0x3c), with(and, w0, 0x30)}, {and, with(and, w0, 3), num(5), with(and, w0, 1)},
		{xor, with(xor, w0, 6), num(6), w0}, {xor, with(xor, w0, 6), num(7), with(xor, w0, 1)}, {xor, with(xor, w0, 6), num(top - 6), with(xor, w0, top)},
		{sub, with(sub, w0, 3), num(4), with(sub, with(sub, w0, 3), 4)}, {div, with(div, w0, 3), num(4), with(div, with(div, w0, 3), 4)}, {lsh, with(lsh, w0, 3), num(4), with(lsh, with(lsh, w0, 3), 4)}, {rsh, with(rsh, w0, 3), num(4), with(rsh, with(rsh, w0, 3), 4)},
		{add, with(sub, w0, 3), num(4), with(add, with(sub, w0, 3), 4)}, {or, with(xor, w0, 3), num(3), with(or, with(xor, w0, 3), 3)}, {add, of(add, w0, w1), num(4), with(add, of(add, w0, w1), 4)},
		// one place
		{xor, one, one, num(0)}, {sub, one, one, num(0)}, {or, one, one, one}, {and, one, one, one}, {or, w0, w0, w0}, {and, w0, w0, w0},
		{add, w0, w0, of(add, w0, w0)}, {mul, w0, w0, of(mul, w0, w0)}, {div, w0, w0, of(div, w0, w0)}, {lsh, w0, w0, of(lsh, w0, w0)}, {rsh, w0, w0, of(rsh, w0, w0)}, {sub, w0, w1, of(sub, w0, w1)}, {and, w0, w1, of(and, w0, w1)},
		// ANeg of ANeg
		{neg, not(w0), num(3), w0}, {neg, not(one), one, one}, {neg, w0, w0, not(w0)}, {neg, of(sub, num(0), w0), w0, not(of(sub, num(0), w0))},
	}
}

// P12.1: terms by each rule, found by hand, in pools with room, with just enough, with less, and with none.
func TestMakeByHand(t *testing.T) {
	for _, c := range byHand() {
		checkMake(t, c.op, c.a, c.b, c.want)
		checkRoom(t, c.op, c.a, c.b, c.want)
	}
}

// P12.1: the first rule that fits is taken, in pools whose terms were put in by no rule.
func TestMakeFirstRule(t *testing.T) {
	twice := func(op int, j, k uint32) *tree { return with(op, with(op, w0, j), k) }
	for _, c := range []made{
		// what leaves a comes ahead of the same op of a term and a number
		{add, twice(add, 1, 2), num(0), twice(add, 1, 2)}, {mul, twice(mul, 3, 5), num(1), twice(mul, 3, 5)}, {or, twice(or, 1, 2), num(0), twice(or, 1, 2)}, {xor, twice(xor, 1, 2), num(0), twice(xor, 1, 2)}, {and, twice(and, 3, 6), num(top), twice(and, 3, 6)},
		{and, with(and, w0, 0), num(top), with(and, w0, 0)}, {mul, with(mul, w0, 0), num(1), with(mul, w0, 0)}, {or, with(or, w0, top), num(0), with(or, w0, top)}, {add, with(add, w0, 0), num(0), with(add, w0, 0)},
		{add, num(0), twice(add, 1, 2), twice(add, 1, 2)}, {mul, num(1), twice(mul, 3, 5), twice(mul, 3, 5)},
		// what is told leads to the rules again, more than once
		{add, twice(add, 1, 2), num(3), with(add, w0, 6)}, {add, num(3), twice(add, 1, 2), with(add, w0, 6)}, {xor, twice(xor, 1, 2), num(3), w0}, {add, with(add, with(add, w0, 0), 4), num(top - 3), with(add, w0, 0)},
		{add, with(add, num(3), 4), num(5), num(12)}, {mul, with(mul, num(3), 4), num(5), num(60)}, {or, twice(or, 1, 0xfffffff0), num(15), num(top)}, {and, twice(and, 3, 12), num(7), num(0)}, {mul, twice(mul, 1<<20, 1<<10), num(4), num(0)},
		// a number on the left of a is none of a term and a number
		{add, of(add, num(5), w0), num(7), with(add, of(add, num(5), w0), 7)}, {and, of(and, num(5), w0), num(7), with(and, of(and, num(5), w0), 7)}, {xor, num(7), of(xor, num(5), w0), with(xor, of(xor, num(5), w0), 7)},
		// parts stay as they are
		{sub, with(add, w0, 0), w0, of(sub, with(add, w0, 0), w0)}, {or, with(or, w0, 0), with(or, w0, 0), with(or, w0, 0)}, {neg, not(not(w0)), w0, not(w0)}, {neg, not(num(3)), w0, num(3)}, {lsh, with(lsh, w0, 40), num(40), with(lsh, with(lsh, w0, 40), 8)},
		{and, of(and, num(3), num(5)), num(7), num(1)}, {sub, of(sub, num(3), num(5)), num(7), with(sub, of(sub, num(3), num(5)), 7)}, {add, of(sub, num(3), num(5)), num(7), with(add, of(sub, num(3), num(5)), 7)},
	} {
		checkMake(t, c.op, c.a, c.b, c.want)
	}
}

// P12.1: each op of each number at its limits, as a and as b, and of each kind of term, one of them the same op of a term and a number, against the chapter's words.
func TestMakeCorners(t *testing.T) {
	for _, op := range all {
		others := alone()
		for _, inner := range all {
			for _, j := range corners {
				others = append(others, with(inner, w0, j))
			}
		}
		others = append(others, of(op, num(5), w0), not(not(w1)), not(num(3)), of(op, num(3), num(9)), with(op, with(op, w0, 3), top))
		for _, j := range corners {
			others = append(others, num(j))
		}
		for _, x := range others {
			if x.op == neg {
				x = not(x.a)
			}
			for _, k := range corners {
				checkMake(t, op, x, num(k), told(op, x, num(k)))
				checkMake(t, op, num(k), x, told(op, num(k), x))
			}
			checkMake(t, op, x, x, told(op, x, x))
			checkMake(t, op, w0, x, told(op, w0, x))
			checkMake(t, op, x, one, told(op, x, one))
		}
	}
}

// drawnPool is a pool of nodes that look like any, in which few ops and numbers come again and again.
func drawnPool(d *draw, nodes int) *term.Pool {
	p := term.New()
	few := []int{all[d.below(len(all))], all[d.below(len(all))], turning[d.below(len(turning))]}
	for {
		now := len(p.Nodes())
		if now >= nodes {
			return p
		}
		n := api.Node{Op: 1, K: corners[d.below(len(corners))]}
		switch k := d.below(10); {
		case now == 0 || k == 0:
			n = api.Node{Op: 2, K: uint32(d.below(3)) * 7}
		case k < 3:
		default:
			n = api.Node{Op: 0x100 + few[d.below(3)], A: d.below(now), B: d.below(now)}
			if n.Op == 0x180 {
				n.B = 0
			}
		}
		p.Put(n)
	}
}

// P12.1: of many pools drawn, what the rules tell, the values, and that what stands in the pool stays.
func TestMakeDrawn(t *testing.T) {
	d := draw(1)
	for range 1500 {
		nodes := 2 + d.below(14)
		p := drawnPool(&d, nodes)
		for range 8 {
			was := p.Nodes()
			op, a, b := all[d.below(len(all))], d.below(len(was)), d.below(len(was))
			if d.below(2) == 0 && was[a].Op >= 0x100 {
				op = was[a].Op - 0x100
			}
			left, right := grown(was, a), grown(was, b)
			want := told(op, left, right)
			need := missing(t, p, want)
			got, e := Make(p, op, a, b)
			if e != api.OK || grown(p.Nodes(), got).String() != want.String() {
				t.Fatalf("%v %x %v: %d, or not %v", left, op, right, e, want)
			}
			checkKept(t, p, was, len(was)+need)
			r := d.record()
			values, _ := term.Values(p.Nodes(), r)
			if is := reckon(op, uint64(values[a]), uint64(values[b])); values[got] != is {
				t.Fatalf("%v %x %v: %d, not %d", left, op, right, values[got], is)
			}
		}
	}
}

// P12.1: of full pools drawn: the place, where the term stands in it, and ErrLong, where it doesn't.
func TestMakeFullDrawn(t *testing.T) {
	d := draw(2)
	told := [2]int{}
	for range 60 {
		nodes := 4 + d.below(12)
		p := drawnPool(&d, nodes)
		fill(p, longest)
		was := p.Nodes()
		for range 12 {
			op, a, b := all[d.below(len(all))], d.below(nodes), d.below(nodes)
			free, _ := poolOf(t)
			for _, n := range was[:nodes] {
				free.Put(n)
			}
			// in a pool with room the same term comes to a place of the others, or doesn't
			want, _ := Make(free, op, a, b)
			e := api.OK
			if want >= nodes {
				want, e = 0, api.ErrLong
			}
			if got, is := Make(p, op, a, b); got != want || is != e {
				t.Fatalf("%+v %x %d %d: %d %d, not %d %d", was[:nodes], op, a, b, got, is, want, e)
			}
			told[min(int(e), 1)]++
		}
		checkKept(t, p, was, longest)
	}
	if told[0] < 50 || told[1] < 50 {
		t.Error("too few of one kind", told)
	}
}

// P12.1: a row of sums put in by no rule comes to one sum, however long it is.
func TestMakeLongest(t *testing.T) {
	p, _ := poolOf(t, w0, num(3), num(7), num(5))
	at := 0
	for n := 4; n < longest-2; n++ {
		at, _ = p.Put(api.Node{Op: 0x100, A: at, B: 1})
	}
	was := p.Nodes()
	got, e := Make(p, add, at, 2)
	if want := with(add, w0, 3*(longest-6)+7); e != api.OK || grown(p.Nodes(), got).String() != want.String() {
		t.Fatal(got, e)
	}
	checkKept(t, p, was, longest)
	if got, e := Make(p, add, at, 3); got != 0 || e != api.ErrLong {
		t.Fatal(got, e)
	}
	checkKept(t, p, was, longest)
}

// P12.1: where a number has no room, no node that stands in the pool is taken for one of it, were it one of the first place.
func TestMakeFullOfFirst(t *testing.T) {
	for _, op := range turning {
		x := with(op, w0, 5)
		p, at := poolOf(t, w1, of(op, w0, w1), x, num(10))
		fill(p, longest)
		checkNot(t, p, op, at[2], at[3], api.ErrLong)
		checkNot(t, p, op, at[3], at[2], api.ErrLong)
	}
	for _, op := range []int{lsh, rsh} {
		p, at := poolOf(t, w1, of(op, w0, w1), num(40))
		fill(p, longest)
		checkNot(t, p, op, at[1]-1, at[2], api.ErrLong)
	}
}

// noOps are none of the ten.
func noOps() []int {
	out := []int{-1, -0x10, -0x80, -0x100, 0x90, 0xb0, 0xc0, 0xd0, 0xe0, 0xf0, 0x1000, 1 << 32, 1<<32 + 0x10, math.MaxInt, math.MinInt, math.MinInt + 0x10}
	for _, op := range all {
		for _, more := range []int{1, 2, 4, 8, 0x100, 0x200, 1 << 16, 1 << 31, 1 << 62} {
			out = append(out, op+more)
		}
	}
	return out
}

// noPlaces are no places of a row of so many nodes.
func noPlaces(nodes int) []int {
	return []int{-1, -2, -nodes - 1, nodes, nodes + 1, longest, 1 << 32, math.MaxInt, math.MinInt, math.MinInt32}
}

// checkNot asks Make for an error, and for nothing else.
func checkNot(t *testing.T, p *term.Pool, op, a, b int, want api.Errno) {
	t.Helper()
	was := p.Nodes()
	if got, e := Make(p, op, a, b); got != 0 || e != want {
		t.Fatalf("%x of %d and %d of %d nodes: %d %d, not %d", op, a, b, len(was), got, e, want)
	}
	checkKept(t, p, was, len(was))
}

// P12.1: a nil pool, ahead of an op that is none, ahead of a place that isn't there.
func TestMakeErrors(t *testing.T) {
	empty := term.New()
	p, _ := poolOf(t, w0, num(3), of(sub, w0, num(3)))
	full, _ := poolOf(t, w0, num(3), of(sub, w0, num(3)))
	fill(full, longest)
	for _, op := range append(noOps(), all...) {
		for _, at := range []int{0, 3, -1, longest} {
			checkNot(t, nil, op, at, 0, api.ErrNil)
			checkNot(t, nil, op, 0, at, api.ErrNil)
		}
	}
	for _, op := range noOps() {
		for _, at := range []int{0, 2, 3, -1} {
			checkNot(t, p, op, at, 0, api.ErrArg)
			checkNot(t, p, op, 0, at, api.ErrArg)
			checkNot(t, empty, op, at, at, api.ErrArg)
		}
		checkNot(t, full, op, 1, 0, api.ErrArg)
	}
	for _, op := range all {
		for _, at := range noPlaces(3) {
			checkNot(t, p, op, at, 0, api.ErrRange)
			checkNot(t, p, op, at, at, api.ErrRange)
			if op != neg {
				checkNot(t, p, op, 0, at, api.ErrRange)
				checkNot(t, p, op, 1, at, api.ErrRange)
			}
		}
		checkNot(t, empty, op, 0, 0, api.ErrRange)
		checkNot(t, full, op, longest, 0, api.ErrRange)
		checkNot(t, full, op, -1, 0, api.ErrRange)
		if op != neg {
			checkNot(t, full, op, 1, longest, api.ErrRange)
		}
		// the last place is one
		last, e := Make(p, op, 2, 2)
		if is := told(op, of(sub, w0, num(3)), of(sub, w0, num(3))); e != api.OK || grown(p.Nodes(), last).String() != is.String() {
			t.Fatal(op, last, e)
		}
		p, _ = poolOf(t, w0, num(3), of(sub, w0, num(3)))
	}
}

// P12.1: b is nothing to ANeg.
func TestNegative(t *testing.T) {
	for _, b := range append(noPlaces(3), 0, 1, 2) {
		p, _ := poolOf(t, w0, num(3), not(w0))
		for at, want := range []*tree{not(w0), num(top - 2), w0} {
			if got, e := Make(p, neg, at, b); e != api.OK || grown(p.Nodes(), got).String() != want.String() {
				t.Fatalf("of %d, with b %d: %d %d", at, b, got, e)
			}
		}
		checkKept(t, p, nil, 4)
	}
}

// checkPut asks for a number's or a word's place.
func checkPut(t *testing.T, name string, got int, e api.Errno, at int, want api.Errno) {
	t.Helper()
	if got != at || e != want {
		t.Fatalf("%s: %d %d, not %d %d", name, got, e, at, want)
	}
}

// P12.1: Number, of a nil pool, of one that has it, of one that hasn't, and of a full one.
func TestNumber(t *testing.T) {
	p, _ := poolOf(t, wrd(5))
	for i, k := range corners {
		got, e := Number(nil, k)
		checkPut(t, "nil", got, e, 0, api.ErrNil)
		for range 2 {
			got, e = Number(p, k)
			checkPut(t, "number", got, e, i+1, api.OK)
			if n, _ := p.At(i + 1); n != (api.Node{Op: 1, K: k}) {
				t.Fatal(n)
			}
		}
		checkKept(t, p, []api.Node{{Op: 2, K: 5}}, i+2)
	}
	fill(p, longest)
	was := p.Nodes()
	for i, k := range corners {
		got, e := Number(p, k)
		checkPut(t, "full", got, e, i+1, api.OK)
	}
	for _, k := range []uint32{6, 15, 100, top - 2} {
		got, e := Number(p, k)
		checkPut(t, "full", got, e, 0, api.ErrLong)
	}
	checkKept(t, p, was, longest)
}

// P12.1: Word, of a nil pool ahead of all else, of no word, of each word, and of a full pool.
func TestWord(t *testing.T) {
	none := []int{-1, -2, -16, 16, 17, 31, 32, longest, 1 << 32, 1<<32 + 3, -1 << 32, math.MaxInt, math.MinInt}
	p, _ := poolOf(t, num(5), num(15))
	was := p.Nodes()
	for _, w := range none {
		got, e := Word(nil, w)
		checkPut(t, "nil", got, e, 0, api.ErrNil)
		got, e = Word(p, w)
		checkPut(t, "none", got, e, 0, api.ErrArg)
		checkKept(t, p, was, 2)
	}
	for w := range 16 {
		got, e := Word(nil, w)
		checkPut(t, "nil", got, e, 0, api.ErrNil)
		for range 2 {
			got, e = Word(p, w)
			checkPut(t, "word", got, e, w+2, api.OK)
			if n, _ := p.At(w + 2); n != (api.Node{Op: 2, K: uint32(w)}) {
				t.Fatal(n)
			}
		}
		checkKept(t, p, was, w+3)
	}
	full, _ := poolOf(t, wrd(0), wrd(15))
	fill(full, longest)
	was = full.Nodes()
	for w, at := range map[int]int{0: 0, 15: 1} {
		got, e := Word(full, w)
		checkPut(t, "full", got, e, at, api.OK)
	}
	for _, w := range []int{1, 7, 14} {
		got, e := Word(full, w)
		checkPut(t, "full", got, e, 0, api.ErrLong)
	}
	for _, w := range none {
		got, e := Word(full, w)
		checkPut(t, "full", got, e, 0, api.ErrArg)
	}
	checkKept(t, full, was, longest)
}

func n1(k uint32) api.Node             { return api.Node{Op: 1, K: k} }
func n2(w uint32) api.Node             { return api.Node{Op: 2, K: w} }
func nn(op, a, b int) api.Node         { return api.Node{Op: 0x100 + op, A: a, B: b} }
func row(nodes ...api.Node) []api.Node { return nodes }

// checkAll asks for a term made anew, and holds that the row has each node of the tree once and no other, the value, the size, and that nothing changes when it is made anew once more.
func checkAll(t *testing.T, nodes []api.Node, at int, want *tree) {
	t.Helper()
	was := slices.Clone(nodes)
	got, place, e := All(nodes, at)
	if e != api.OK || place < 0 || place >= len(got) {
		t.Fatalf("%v: %d, at %d of %d", grown(nodes, at), e, place, len(got))
	}
	if !slices.Equal(nodes, was) {
		t.Fatal("the row was changed")
	}
	if first, e := term.Check(got); e != api.OK {
		t.Fatalf("%v: %+v may not be, at %d", grown(nodes, at), got, first)
	}
	if is := grown(got, place); is.String() != want.String() {
		t.Fatalf("%v: %v, not %v", grown(nodes, at), is, want)
	}
	if len(got) != len(want.each(map[string]bool{})) {
		t.Fatalf("%v: %d nodes, not each once", want, len(got))
	}
	for _, r := range records() {
		old, _ := term.Value(nodes, at, r)
		if value, _ := term.Value(got, place, r); value != old {
			t.Fatalf("%v: %d, not %d", grown(nodes, at), value, old)
		}
	}
	old, _ := term.Size(nodes, at)
	if size, _ := term.Size(got, place); size > old {
		t.Fatalf("%v: %d nodes, not at most %d", grown(nodes, at), size, old)
	}
	again, next, e := All(got, place)
	if e != api.OK || len(again) != len(got) || grown(again, next).String() != want.String() || !Normal(got) {
		t.Fatalf("%v: not as it was, made anew once more", want)
	}
}

// checkNormal asks for Normal, of a row and of those that begin as it does.
func checkNormal(t *testing.T, nodes []api.Node, want bool) {
	t.Helper()
	was := slices.Clone(nodes)
	if got := Normal(nodes); got != want {
		t.Fatalf("of %d nodes, the last ones %+v: %v", len(nodes), nodes[max(0, len(nodes)-4):], got)
	}
	if !slices.Equal(nodes, was) {
		t.Fatal("the row was changed")
	}
}

// P12.2: terms made anew, found by hand.
func TestAllByHand(t *testing.T) {
	for _, c := range []struct{ term, want *tree }{
		{num(0), num(0)}, {num(top), num(top)}, {w0, w0}, {w1, w1},
		// the chapter's examples
		{with(add, of(add, num(5), w0), 7), with(add, w0, 12)}, {of(sub, w0, w0), num(0)},
		{one, one}, {of(sub, one, one), num(0)}, {not(not(not(one))), not(one)},
		// terms that come to stand at one place when they are made anew
		{of(sub, with(add, w0, 0), w0), num(0)}, {of(xor, of(add, num(3), w0), with(add, with(add, w0, 1), 2)), num(0)}, {of(or, with(mul, w0, 1), with(div, w0, 1)), w0}, {of(and, w0, not(not(w0))), w0},
		// terms that come to be numbers
		{of(add, of(sub, w0, w0), with(mul, w1, 0)), num(0)}, {of(add, of(add, num(1), num(2)), w0), with(add, w0, 3)}, {not(of(add, num(1), num(2))), num(top - 2)}, {of(lsh, w0, of(add, num(30), num(3))), with(lsh, w0, 1)},
		{of(div, w0, of(sub, w1, w1)), num(0)}, {of(div, one, of(div, num(3), num(2))), one},
		// terms that come to be ANeg, or sums
		{not(of(or, not(w0), not(w0))), w0}, {with(add, with(sub, with(add, w0, 4), 0), 5), with(add, w0, 9)}, {with(add, not(not(with(add, w0, 4))), 5), with(add, w0, 9)},
		{with(and, with(and, w0, 0xf0), 0x3c), with(and, w0, 0x30)}, {of(sub, num(0), w0), of(sub, num(0), w0)},
	} {
		p, at := poolOf(t, w1, num(9), c.term, num(8), not(num(7)))
		checkAll(t, p.Nodes(), at[2], c.want)
		checkAll(t, p.Nodes()[:at[2]+1], at[2], c.want)
	}
}

// P12.2: a row that has a node twice: parts at unlike places are one, once they are made anew.
func TestAllOfTwice(t *testing.T) {
	nodes := row(n2(3), n2(3), nn(sub, 0, 1), n1(4), n1(4), nn(add, 0, 3), nn(add, 1, 4), nn(mul, 5, 6), nn(xor, 5, 6), nn(and, 6, 5), nn(add, 5, 4))
	w, five := wrd(3), with(add, wrd(3), 4)
	for at, want := range []*tree{w, w, num(0), num(4), num(4), five, five, of(mul, five, five), num(0), five, with(add, w, 8)} {
		checkAll(t, nodes, at, want)
	}
	checkNormal(t, nodes, false)
	checkNormal(t, row(n2(3), n2(3), n1(4), n1(4), nn(add, 0, 2), nn(add, 1, 3), nn(mul, 4, 5), nn(mul, 5, 4)), true)
	checkNormal(t, row(n2(3), n2(3), nn(xor, 0, 1)), false)
	checkNormal(t, row(n2(3), n2(3), nn(and, 1, 0)), false)
	checkNormal(t, row(n2(3), n2(3), nn(mul, 1, 0)), true)
}

// drawnRow is a row of nodes that look like any, some of them twice.
func drawnRow(d *draw, nodes int) []api.Node {
	out := drawnPool(d, 1+d.below(nodes)).Nodes()
	for len(out) < nodes {
		more := drawnPool(d, len(out)+1).Nodes()
		out = append(out, more[d.below(len(more))])
	}
	return out
}

// P12.2 and P12.3: terms of many rows drawn, against trees made anew node by node.
func TestAllDrawn(t *testing.T) {
	d := draw(3)
	normal := 0
	for range 3000 {
		nodes := drawnRow(&d, 1+d.below(12))
		same := true
		for at := range nodes {
			before := grown(nodes, at)
			want := renewed(before)
			same = same && want.String() == before.String()
			if at == len(nodes)-1 || d.below(4) == 0 {
				checkAll(t, nodes, at, want)
			}
		}
		checkNormal(t, nodes, same)
		if same {
			normal++
		}
	}
	if normal < 100 || normal > 2900 {
		t.Error("too few of one kind", normal)
	}
}

// badRows are rows that may not be.
func badRows() [][]api.Node {
	return [][]api.Node{row(api.Node{}), row(n2(16)), row(nn(add, 0, 0)), row(n1(1), nn(add, 0, 1)), row(n1(1), nn(add, -1, 0)), row(n1(1), nn(0x90, 0, 0)), row(n1(1), nn(neg, 0, 1)), row(n2(0), n2(1), api.Node{Op: 1, A: 1}), row(n2(0), api.Node{Op: 0x110, K: 1}), append(slices.Repeat(row(n2(0)), longest-1), n2(16)), slices.Repeat(row(n2(0)), longest+1)}
}

// P12.2: of a row that may not be, whatever place is asked for; of a place that isn't there.
func TestAllErrors(t *testing.T) {
	checkNot := func(nodes []api.Node, at int, want api.Errno) {
		t.Helper()
		if got, place, e := All(nodes, at); got != nil || place != 0 || e != want {
			t.Fatalf("at %d of %d nodes: %d nodes, %d, %d", at, len(nodes), len(got), place, e)
		}
	}
	for _, nodes := range badRows() {
		for _, at := range append(noPlaces(len(nodes)), 0, len(nodes)-1) {
			checkNot(nodes, at, api.ErrForm)
		}
		checkNormal(t, nodes, false)
	}
	for _, nodes := range [][]api.Node{nil, {}, row(n1(3)), row(n2(3), n2(4), nn(sub, 0, 1)), slices.Repeat(row(n2(0)), longest)} {
		for _, at := range noPlaces(len(nodes)) {
			checkNot(nodes, at, api.ErrRange)
		}
		checkNormal(t, nodes, true)
	}
	// what stands in the spare room is no part of the row
	checkNot(row(n1(3), n1(4))[:1], 1, api.ErrRange)
	checkNormal(t, row(n2(3), nn(sub, 0, 0))[:1], true)
}

// P12.2 and P12.3: trees that are far too large to go through.
func TestAllLarge(t *testing.T) {
	doubled := row(n2(7))
	for at := range 500 {
		doubled = append(doubled, nn(add, at, at))
	}
	got, place, e := All(doubled, 500)
	if e != api.OK || place != 500 || !slices.Equal(got, doubled) || !Normal(doubled) {
		t.Fatal(len(got), place, e)
	}
	got, place, e = All(doubled, 300)
	if e != api.OK || place != 300 || !slices.Equal(got, doubled[:301]) {
		t.Fatal(len(got), place, e)
	}
	// each is the sum of the one ahead of it, made anew in two ways
	nodes := row(n2(7), n1(0), n1(1))
	at := 0
	for range 400 {
		n := len(nodes)
		nodes = append(nodes, nn(add, 1, at), nn(mul, at, 2), nn(add, n, n+1))
		at = n + 2
	}
	got, place, e = All(nodes, at)
	if e != api.OK || place != 400 || !slices.Equal(got, doubled[:401]) || Normal(nodes) {
		t.Fatal(len(got), place, e)
	}
	got, place, e = All(append(nodes, nn(xor, at-1, at-2)), at+1)
	if e != api.OK || place != 0 || !slices.Equal(got, row(n1(0))) {
		t.Fatal(len(got), place, e)
	}
	for i, r := range records() {
		old, _ := term.Value(nodes, at, r)
		if value, _ := term.Value(doubled, 400, r); value != old {
			t.Fatal(i, value, old)
		}
	}
}

// P12.2: one term alone isn't alike to itself made anew, at the first place that can be, behind others, and at the last.
func TestNormalOne(t *testing.T) {
	for _, first := range []uint32{0, 5} {
		for _, op := range all {
			checkNormal(t, row(n1(first), nn(op, 0, 0)), false)
		}
	}
	for _, op := range all {
		same := op == sub || op == xor || op == or || op == and
		checkNormal(t, row(n2(5), nn(op, 0, 0)), !same)
	}
	checkNormal(t, row(n2(5), nn(neg, 0, 0), nn(neg, 1, 0)), false)
	long := row(n2(0), n2(1))
	for n := 2; n < longest-1; n++ {
		long = append(long, [2]api.Node{n2(uint32(n % 16)), nn(sub, n-1, n-2)}[n%2])
	}
	long[2], long[4], long[6], long[8], long[10] = n1(0), n1(1), n1(top), n1(32), nn(neg, 0, 0)
	for _, head := range [][]api.Node{long[:11], long[:12], long[:900], long} {
		last := len(head) - 1
		checkNormal(t, head, true)
		for _, n := range row(nn(add, 0, 2), nn(add, 2, 0), nn(add, 4, 6), nn(mul, 0, 4), nn(mul, 0, 2), nn(div, 0, 4), nn(div, 0, 2), nn(or, 0, 6), nn(and, 6, 0), nn(lsh, 0, 8), nn(rsh, last, 8), nn(neg, 10, 0), nn(neg, 4, 0), nn(sub, last, last), nn(and, last, last), nn(add, 4, 0)) {
			checkNormal(t, append(slices.Clone(head), n), false)
			if len(head) < 20 {
				checkNormal(t, append(slices.Clone(head), n, n2(3), nn(mul, 0, 0)), false)
			}
		}
		for _, n := range row(nn(add, 0, 4), nn(add, 0, 0), nn(sub, 2, 0), nn(div, 4, 0), nn(lsh, 0, 4), nn(lsh, 8, 0), nn(neg, 0, 0), nn(mul, 0, 6), nn(or, 0, 4), n1(7), n2(3), nn(xor, 0, 1)) {
			checkNormal(t, append(slices.Clone(head), n), true)
		}
	}
}

// P12.2: the longest row, each node the one ahead of it and 1 more, comes to one sum, though the sums on the way are too many for a pool.
func TestAllLongest(t *testing.T) {
	nodes := row(n2(5), n1(1))
	for at := 2; at < longest; at++ {
		nodes = append(nodes, nn(add, (at-1)*min(at-2, 1), 1))
	}
	for _, at := range []int{2, 3, 40000, longest - 1} {
		got, place, e := All(nodes, at)
		if want := with(add, wrd(5), uint32(at-1)); e != api.OK || len(got) != 3 || grown(got, place).String() != want.String() || !Normal(got) {
			t.Fatal(at, len(got), place, e)
		}
	}
	if Normal(nodes) || !Normal(nodes[:3]) || Normal(nodes[:4]) {
		t.Error("normal")
	}
}

// P12.2: a term whose tree has more nodes, made anew, than a row may have: each of them is told.
func TestAllMoreThanARow(t *testing.T) {
	nodes := row(n2(5), n1(1), nn(add, 0, 1), nn(xor, 0, 2))
	for len(nodes) < longest {
		n := len(nodes)
		nodes = append(nodes, nn(add, n-2, 1), nn(xor, n-1, n))
	}
	got, place, e := All(nodes, longest-1)
	// the word, and for each two nodes a number, a sum, and what is reckoned of it
	if want := 1 + 3*(longest/2-1); e != api.OK || len(got) != want {
		t.Fatal(len(got), e)
	}
	seen := map[api.Node]bool{}
	values := make([]uint32, len(got))
	for at, n := range got {
		if seen[n] || n.Op >= 0x100 && (n.A >= at || n.B >= at) {
			t.Fatal(at, n)
		}
		seen[n] = true
		switch n.Op {
		case 1:
			values[at] = n.K
		case 2:
			values[at] = 77
		default:
			values[at] = reckon(n.Op-0x100, uint64(values[n.A]), uint64(values[n.B]))
		}
	}
	if want, _ := term.Value(nodes, longest-1, api.Record{5: 77}); values[place] != want {
		t.Fatal(values[place], want)
	}
}

// P12.3, and rules 3, 4 and 6: arguments and their spare room stay, answers are new memory, and a call asked again tells the same.
func TestNothingShared(t *testing.T) {
	nodes := append(make([]api.Node, 0, 20), n1(5), n2(6), nn(sub, 1, 0), n1(7), nn(neg, 2, 0))
	room, was := nodes[:20], slices.Clone(nodes[:20])
	for range 2 {
		got, place, e := All(nodes, 4)
		if e != api.OK || grown(got, place).String() != not(with(sub, wrd(6), 5)).String() || len(got) != 4 || !Normal(nodes) {
			t.Fatal(got, place, e)
		}
		other, _, _ := All(nodes, 4)
		clear(got[:cap(got)])
		if !slices.Equal(room, was) || other[0] == (api.Node{}) {
			t.Fatal("an answer is other memory than its own")
		}
	}
	for _, nodes := range [][]api.Node{nil, {}} {
		if !Normal(nodes) {
			t.Error("a row of no nodes")
		}
	}
	// two pools have nothing of one another
	p, at := poolOf(t, w0, num(3))
	q, _ := poolOf(t, w0, num(3))
	Make(p, add, at[0], at[1])
	checkKept(t, q, p.Nodes()[:2], 2)
}
