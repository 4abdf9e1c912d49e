package atom

import (
	"fmt"
	"math"
	"slices"
	"testing"

	"tamis/api"
	"tamis/term"
)

const (
	top  = math.MaxUint32
	half = 1 << 31
	// longest is how many nodes a row and a pool have at most, written out.
	longest = 65536
)

// The ops, and what is reckoned, written out.
const (
	eq, gt, ge, set    = 0x10, 0x20, 0x30, 0x40
	add, sub, and, neg = 0x00, 0x10, 0x50, 0x80
)

var (
	ops   = []int{eq, gt, ge, set}
	signs = map[int]string{eq: "==", gt: ">", ge: ">=", set: "&"}
	// limits are the numbers at which rules begin and end.
	limits = []uint32{0, 1, 2, half, top - 1, top}
)

// tree is a term, written out: a number (op -1), a word (op -2), or what is reckoned.
type tree struct {
	op   int
	k    uint32
	a, b *tree
}

func num(k uint32) *tree          { return &tree{op: -1, k: k} }
func wrd(w uint32) *tree          { return &tree{op: -2, k: w} }
func of(op int, a, b *tree) *tree { return &tree{op: op, a: a, b: b} }

// cut is a term of which some bits are kept; the last ones are cut last.
func cut(a *tree, bits ...uint32) *tree {
	for _, k := range bits {
		a = of(and, a, num(k))
	}
	return a
}

func (t *tree) String() string {
	switch {
	case t.op == -1:
		return fmt.Sprintf("%d", t.k)
	case t.op == -2:
		return fmt.Sprintf("w%d", t.k)
	case t.op == neg:
		return fmt.Sprintf("(-%v)", t.a)
	}
	return fmt.Sprintf("(%v %x %v)", t.a, t.op, t.b)
}

// grown is the tree of a term.
func grown(nodes []api.Node, at int) *tree {
	switch n := nodes[at]; n.Op {
	case 1:
		return num(n.K)
	case 2:
		return wrd(n.K)
	case 0x180:
		return of(neg, grown(nodes, n.A), nil)
	default:
		return of(n.Op-0x100, grown(nodes, n.A), grown(nodes, n.B))
	}
}

// lay puts a tree into a pool as it is, by no rule.
func lay(t *testing.T, p *term.Pool, what *tree) int {
	t.Helper()
	n := api.Node{Op: what.op + 0x100}
	switch {
	case what.op < 0:
		n = api.Node{Op: -what.op, K: what.k}
	case what.op == neg:
		n.A = lay(t, p, what.a)
	default:
		n.A, n.B = lay(t, p, what.a), lay(t, p, what.b)
	}
	at, e := p.Put(n)
	if e != api.OK {
		t.Fatalf("%v has no place: %d", what, e)
	}
	return at
}

// poolOf is a pool of trees as they are, and where they stand.
func poolOf(t *testing.T, trees ...*tree) (*term.Pool, []int) {
	t.Helper()
	p := term.New()
	var places []int
	for _, what := range trees {
		places = append(places, lay(t, p, what))
	}
	return p, places
}

// value is a tree's value, of the few ops that the tests reckon with.
func (t *tree) value(r api.Record) uint32 {
	switch t.op {
	case -1:
		return t.k
	case -2:
		return r[t.k]
	case add:
		return t.a.value(r) + t.b.value(r)
	case sub:
		return t.a.value(r) - t.b.value(r)
	case and:
		return t.a.value(r) & t.b.value(r)
	}
	return -t.a.value(r)
}

// asked is what is asked of two words, bit by bit from the highest one on.
func asked(op int, a, b uint32) bool {
	for i := 31; i >= 0; i-- {
		x, y := a>>i%2, b>>i%2
		if op == set && x+y == 2 {
			return true
		}
		if op != set && x != y {
			return op != eq && x > y
		}
	}
	return op == eq || op == ge
}

// answer is what the rules tell.
type answer struct {
	known, op int
	a, b      *tree
	not       bool
}

func (x answer) String() string {
	switch {
	case x.known == 2:
		return "always"
	case x.known == 3:
		return "never"
	case x.not:
		return fmt.Sprintf("not %v %s %v", x.a, signs[x.op], x.b)
	}
	return fmt.Sprintf("%v %s %v", x.a, signs[x.op], x.b)
}

func (x answer) turned() answer {
	if x.known != 1 {
		return answer{known: 5 - x.known}
	}
	x.not = !x.not
	return x
}

// told is what the rules tell of an op of two trees, the chapter's words one by one. Of a pool, trees that are the same stand at one place.
func told(op int, a, b *tree) answer {
	always, never := answer{known: 2}, answer{known: 3}
	if a.op == -1 && b.op == -1 {
		if asked(op, a.k, b.k) {
			return always
		}
		return never
	}
	if a.op == -1 {
		switch op {
		case gt:
			return told(ge, b, a).turned()
		case ge:
			return told(gt, b, a).turned()
		}
		return told(op, b, a)
	}
	bits := a.op == and && a.b.op == -1
	switch k := b.k; {
	case b.op != -1:
	case op == gt && k == top, op == set && k == 0:
		return never
	case op == gt && k == 0, op == set && k == top:
		return told(eq, a, num(0)).turned()
	case op == ge && k == 0:
		return always
	case op == ge:
		return told(gt, a, num(k-1))
	case op == set && bits:
		return told(set, a.a, num(a.b.k&k))
	case op == eq && bits && k|a.b.k != a.b.k:
		return never
	case op == eq && bits && k == 0:
		return told(set, a.a, a.b).turned()
	}
	if a.String() == b.String() {
		switch op {
		case eq, ge:
			return always
		case gt:
			return never
		}
		return told(eq, a, num(0)).turned()
	}
	return answer{1, op, a, b, false}
}

// draw is numbers that look like any, the same ones at each run.
type draw uint64

func (d *draw) below(n int) int {
	*d = *d*6364136223846793005 + 1442695040888963407
	return int(uint64(*d) >> 33 % uint64(n))
}

// number is one at a limit, one of few bits, or any.
func (d *draw) number() uint32 {
	switch d.below(3) {
	case 0:
		return limits[d.below(len(limits))]
	case 1:
		return uint32(d.below(8))
	}
	return uint32(d.below(math.MaxInt32))<<1 + uint32(d.below(2))
}

func (d *draw) record() (r api.Record) {
	for w := range r {
		r[w] = d.number()
	}
	return r
}

// records are some whose words are at the limits, and at the bits that the tests cut to.
func records() []api.Record {
	var out []api.Record
	for _, k := range append(limits, 4, 5, 6, 9, 0x10, 0x30, 0x3c, 0xf0, half-1, half+1) {
		r := api.Record{}
		for w := range r {
			r[w] = k
		}
		out = append(out, r)
	}
	for d, i := draw(13), 0; i < 8; i++ {
		out = append(out, d.record())
	}
	return out
}

// checkKept holds that a pool has all that it had, where it was, and how many nodes it has.
func checkKept(t *testing.T, p *term.Pool, was []api.Node, now int) {
	t.Helper()
	nodes := p.Nodes()
	if len(nodes) < len(was) || !slices.Equal(nodes[:len(was)], was) {
		t.Fatal("what stood in the pool doesn't any more")
	}
	if len(nodes) != now {
		t.Fatalf("the pool has %d nodes, not %d", len(nodes), now)
	}
}

// need is how many numbers of an answer a pool hasn't got.
func need(p *term.Pool, want answer) int {
	if want.known != 1 || want.b.op != -1 || slices.Contains(p.Nodes(), api.Node{Op: 1, K: want.b.k}) {
		return 0
	}
	return 1
}

// read is an atom that was told of a pool, written out; what is told beside Always and Never is the zero atom.
func read(t *testing.T, p *term.Pool, x api.Atom, known int) answer {
	t.Helper()
	if known == 1 {
		nodes := p.Nodes()
		return answer{1, x.Op, grown(nodes, x.A), grown(nodes, x.B), x.Not}
	}
	if x != (api.Atom{}) || known != 2 && known != 3 {
		t.Fatalf("%v beside %d", x, known)
	}
	return answer{known: known}
}

// so tells what is told of a record.
func so(t *testing.T, nodes []api.Node, x api.Atom, known int, r api.Record) bool {
	t.Helper()
	if known != 1 {
		return known == 2
	}
	is, e := Holds(nodes, x, r)
	if e != api.OK {
		t.Fatal(x, e)
	}
	return is
}

// checkAgain holds that an atom that is open comes back as it is, and turned, if that is asked for, from a pool that stays.
func checkAgain(t *testing.T, p *term.Pool, x api.Atom) {
	t.Helper()
	was := p.Nodes()
	for _, not := range []bool{false, true} {
		y, known, e := Make(p, x.Op, x.A, x.B, not)
		want := api.Atom{Op: x.Op, A: x.A, B: x.B, Not: not}
		if y != want || known != 1 || e != api.OK {
			t.Fatalf("%v again: %v %d %d", want, y, known, e)
		}
	}
	checkKept(t, p, was, len(was))
}

// checkMake asks for an op of two trees, as it is and turned, and holds the answer against what is wanted, and against the values.
func checkMake(t *testing.T, op int, a, b *tree, want answer) {
	t.Helper()
	for _, not := range []bool{false, true} {
		p, at := poolOf(t, a, b)
		was, more := p.Nodes(), need(p, want)
		x, known, e := Make(p, op, at[0], at[1], not)
		if e != api.OK {
			t.Fatalf("%v %s %v: %d", a, signs[op], b, e)
		}
		checkKept(t, p, was, len(was)+more)
		if is := read(t, p, x, known); is.String() != want.String() {
			t.Fatalf("%v %s %v (%v): %v, not %v", a, signs[op], b, not, is, want)
		}
		nodes := p.Nodes()
		for _, r := range records() {
			if so(t, nodes, x, known, r) != (asked(op, a.value(r), b.value(r)) != not) {
				t.Fatalf("%v %s %v (%v) isn't so where %v is, of %v", a, signs[op], b, not, want, r)
			}
		}
		if known == 1 {
			checkAgain(t, p, x)
		}
		want = want.turned()
	}
}

// byHand is what the rules tell of an op of two terms, found by hand.
type byHand struct {
	op   int
	a, b *tree
	want string
}

// check holds what was found by hand, against the rules as they are written out here, too.
func (c byHand) check(t *testing.T) {
	t.Helper()
	want := told(c.op, c.a, c.b)
	if want.String() != c.want {
		t.Fatalf("%v %s %v: %v, not %v, by the rules of the test", c.a, signs[c.op], c.b, want, c.want)
	}
	checkMake(t, c.op, c.a, c.b, want)
}

// w1 and w2 are words, and one is what is reckoned of both.
var (
	w1, w2 = wrd(1), wrd(2)
	one    = of(sub, w1, w2)
)

// P13.1: the chapter's examples.
func TestExamples(t *testing.T) {
	byHand{gt, num(5), w1, "not w1 > 4"}.check(t)
	byHand{set, cut(w2, 0xf0), num(0x3c), "w2 & 48"}.check(t)
	p, at := poolOf(t, num(5), w1)
	x, known, e := Make(p, gt, at[0], at[1], false)
	if x != (api.Atom{Op: 0x20, A: 1, B: 2, Not: true}) || known != Open || e != api.OK || !slices.Equal(p.Nodes(), []api.Node{{Op: 1, K: 5}, {Op: 2, K: 1}, {Op: 1, K: 4}}) {
		t.Error(x, known, e, p.Nodes())
	}
	if Open != 1 || Always != 2 || Never != 3 {
		t.Error("the numbers of what is known")
	}
}

// P13.1: rule 1, each op of numbers at their limits.
func TestNumbers(t *testing.T) {
	for _, c := range []byHand{
		{eq, num(0), num(0), "always"}, {eq, num(0), num(1), "never"}, {eq, num(top), num(top), "always"}, {eq, num(half), num(0), "never"}, {eq, num(top), num(top - 1), "never"},
		{gt, num(1), num(0), "always"}, {gt, num(0), num(0), "never"}, {gt, num(0), num(1), "never"}, {gt, num(top), num(top - 1), "always"}, {gt, num(top), num(top), "never"}, {gt, num(half), num(half - 1), "always"}, {gt, num(1), num(half), "never"}, {gt, num(top), num(0), "always"},
		{ge, num(0), num(0), "always"}, {ge, num(0), num(1), "never"}, {ge, num(1), num(0), "always"}, {ge, num(top), num(top), "always"}, {ge, num(top - 1), num(top), "never"}, {ge, num(half), num(1), "always"},
		{set, num(0), num(top), "never"}, {set, num(top), num(0), "never"}, {set, num(6), num(8), "never"}, {set, num(6), num(2), "always"}, {set, num(half), num(top), "always"}, {set, num(half), num(half - 1), "never"}, {set, num(0), num(0), "never"}, {set, num(top), num(top), "always"},
	} {
		c.check(t)
	}
	for _, op := range ops {
		for _, j := range limits {
			for _, k := range limits {
				known := "never"
				if asked(op, j, k) {
					known = "always"
				}
				byHand{op, num(j), num(k), known}.check(t)
			}
		}
	}
}

// P13.1: rules 2 and 3, each op of a term and a number at its limits, to the right and to the left of it; %v is the term.
func TestNumberAndTerm(t *testing.T) {
	for _, c := range []struct {
		op          int
		k           uint32
		right, left string
	}{
		{eq, 0, "%v == 0", "%v == 0"}, {eq, 1, "%v == 1", "%v == 1"}, {eq, 2, "%v == 2", "%v == 2"}, {eq, half, "%v == 2147483648", "%v == 2147483648"}, {eq, top - 1, "%v == 4294967294", "%v == 4294967294"}, {eq, top, "%v == 4294967295", "%v == 4294967295"},
		{gt, 0, "not %v == 0", "never"}, {gt, 1, "%v > 1", "%v == 0"}, {gt, 2, "%v > 2", "not %v > 1"}, {gt, half, "%v > 2147483648", "not %v > 2147483647"}, {gt, top - 1, "%v > 4294967294", "not %v > 4294967293"}, {gt, top, "never", "not %v > 4294967294"},
		{ge, 0, "always", "%v == 0"}, {ge, 1, "not %v == 0", "not %v > 1"}, {ge, 2, "%v > 1", "not %v > 2"}, {ge, half, "%v > 2147483647", "not %v > 2147483648"}, {ge, top - 1, "%v > 4294967293", "not %v > 4294967294"}, {ge, top, "%v > 4294967294", "always"},
		{set, 0, "never", "never"}, {set, 1, "%v & 1", "%v & 1"}, {set, 2, "%v & 2", "%v & 2"}, {set, half, "%v & 2147483648", "%v & 2147483648"}, {set, top - 1, "%v & 4294967294", "%v & 4294967294"}, {set, top, "not %v == 0", "not %v == 0"},
	} {
		for _, a := range []*tree{w1, wrd(0), wrd(15), one, of(add, w1, num(5)), of(sub, w1, num(0)), of(neg, w1, nil), of(and, w1, w2), of(and, num(6), w1)} {
			byHand{c.op, a, num(c.k), named(c.right, a)}.check(t)
			byHand{c.op, num(c.k), a, named(c.left, a)}.check(t)
		}
	}
}

// named is what is wanted, with the term's name in it, if it hangs on the term.
func named(want string, a *tree) string {
	if want == "always" || want == "never" {
		return want
	}
	return fmt.Sprintf(want, a)
}

// P13.1: rule 3, of what was cut to some bits, once and more than once.
func TestBits(t *testing.T) {
	twice := cut(w1, 0xf0, 0x3c)
	for _, c := range []byHand{
		// some bits in common, none, all, and all that there are
		{set, cut(w1, 0xf0), num(0x3c), "w1 & 48"}, {set, num(0x3c), cut(w1, 0xf0), "w1 & 48"}, {set, cut(w1, 0xf0), num(0x0f), "never"}, {set, cut(w1, 0xf0), num(0xf0), "w1 & 240"}, {set, cut(w1, 0xf0), num(top - 1), "w1 & 240"}, {set, cut(w1, top-1), num(1), "never"}, {set, cut(w1, top-1), num(0xf0), "w1 & 240"},
		{set, cut(w1, half), num(half), "w1 & 2147483648"}, {set, cut(w1, half), num(half - 1), "never"}, {set, cut(w1, 0), num(6), "never"}, {set, cut(w1, top), num(6), "w1 & 6"}, {set, cut(w1, 0xf0), num(0), "never"},
		// a bit of all of them
		{set, cut(w1, 0xf0), num(top), "w1 & 240"}, {set, cut(w1, 0), num(top), "never"}, {set, cut(w1, top), num(top), "not w1 == 0"}, {set, num(top), cut(w1, 1), "w1 & 1"},
		// cut more than once
		{set, twice, num(0x1f), "w1 & 16"}, {set, twice, num(0x0f), "never"}, {set, twice, num(top), "w1 & 48"}, {set, cut(w1, 6, 5, 3), num(7), "never"}, {set, cut(w1, 7, 6, 14), num(7), "w1 & 6"}, {set, cut(w1, top, top), num(top), "not w1 == 0"}, {set, cut(w1, top, 6), num(top), "w1 & 6"},
		// equal to a number that has bits of it alone, another one too, none
		{eq, cut(w1, 0xf0), num(0x30), "(w1 50 240) == 48"}, {eq, num(0x30), cut(w1, 0xf0), "(w1 50 240) == 48"}, {eq, cut(w1, 0xf0), num(0xf0), "(w1 50 240) == 240"}, {eq, cut(w1, 0xf0), num(0x3c), "never"}, {eq, num(0x3c), cut(w1, 0xf0), "never"}, {eq, cut(w1, 0xf0), num(1), "never"}, {eq, cut(w1, half), num(half), "(w1 50 2147483648) == 2147483648"}, {eq, cut(w1, half-1), num(half), "never"}, {eq, cut(w1, top), num(top), "(w1 50 4294967295) == 4294967295"}, {eq, cut(w1, top-1), num(top), "never"}, {eq, cut(w1, 0), num(1), "never"},
		{eq, cut(w1, 0xf0), num(0), "not w1 & 240"}, {eq, num(0), cut(w1, 0xf0), "not w1 & 240"}, {eq, cut(w1, 0), num(0), "always"}, {eq, cut(w1, top), num(0), "w1 == 0"}, {eq, cut(w1, 1), num(0), "not w1 & 1"},
		{eq, twice, num(0), "not w1 & 48"}, {eq, twice, num(0x30), "((w1 50 240) 50 60) == 48"}, {eq, twice, num(0x0c), "((w1 50 240) 50 60) == 12"}, {eq, twice, num(0xc0), "never"}, {eq, cut(w1, 0xf0, 0x0f), num(0), "always"}, {eq, cut(w1, top, top), num(0), "w1 == 0"},
		// above, and at least
		{gt, cut(w1, 0xf0), num(0), "w1 & 240"}, {gt, cut(w1, 0), num(0), "never"}, {gt, cut(w1, top), num(0), "not w1 == 0"}, {gt, twice, num(0), "w1 & 48"}, {gt, cut(w1, 0xf0), num(1), "(w1 50 240) > 1"}, {gt, cut(w1, 0xf0), num(0xf0), "(w1 50 240) > 240"}, {gt, cut(w1, 0xf0), num(top), "never"},
		{ge, cut(w1, 0xf0), num(1), "w1 & 240"}, {ge, twice, num(1), "w1 & 48"}, {ge, cut(w1, 0xf0), num(2), "(w1 50 240) > 1"}, {ge, cut(w1, 0xf0), num(0), "always"},
		{gt, num(1), cut(w1, 0xf0), "not w1 & 240"}, {gt, num(1), cut(w1, 0), "always"}, {ge, num(0), cut(w1, 0xf0), "not w1 & 240"}, {ge, num(0), twice, "not w1 & 48"}, {gt, num(0), cut(w1, 0xf0), "never"}, {ge, num(top), cut(w1, 0xf0), "always"}, {gt, num(2), cut(w1, 0xf0), "not (w1 50 240) > 1"}, {ge, num(1), cut(w1, 0xf0), "not (w1 50 240) > 1"},
		// what comes to a number, is one
		{set, cut(num(6), 3), num(10), "always"}, {set, cut(num(6), 3), num(4), "never"}, {set, cut(num(6), 3), num(top), "always"}, {eq, cut(num(6), 3), num(0), "never"}, {eq, cut(num(6), 1), num(0), "always"}, {eq, cut(num(6), 3), num(2), "(6 50 3) == 2"}, {ge, cut(num(8), 3, 7), num(1), "never"},
		// bits that no number cuts to
		{set, of(and, num(6), w1), num(5), "(6 50 w1) & 5"}, {eq, of(and, num(6), w1), num(0), "(6 50 w1) == 0"}, {eq, of(and, num(6), w1), num(1), "(6 50 w1) == 1"}, {set, of(and, w1, w2), num(5), "(w1 50 w2) & 5"}, {set, cut(of(and, w1, w2), 6), num(5), "(w1 50 w2) & 4"}, {set, cut(of(and, num(6), w1), 7), num(5), "(6 50 w1) & 5"},
		{set, of(add, cut(w1, 6), num(4)), num(5), "((w1 50 6) 0 4) & 5"}, {eq, of(add, w1, num(6)), num(1), "(w1 0 6) == 1"}, {eq, of(add, w1, num(6)), num(0), "(w1 0 6) == 0"}, {set, of(neg, cut(w1, 6), nil), num(1), "(-(w1 50 6)) & 1"},
		// what is cut, and a term that is none of numbers
		{eq, cut(w1, 6), w2, "(w1 50 6) == w2"}, {set, cut(w1, 6), w2, "(w1 50 6) & w2"}, {set, w2, cut(w1, 6), "w2 & (w1 50 6)"}, {eq, w1, cut(w1, 0), "w1 == (w1 50 0)"}, {ge, cut(w1, 6), w2, "(w1 50 6) >= w2"},
	} {
		c.check(t)
	}
}

// P13.1: rules 4 and 5, of two terms neither of which is a number.
func TestTerms(t *testing.T) {
	for _, a := range []*tree{w1, wrd(15), one, of(add, w1, num(5)), of(neg, w1, nil), of(and, w1, w2), of(and, num(6), w1)} {
		for op, want := range map[int]string{eq: "always", ge: "always", gt: "never", set: fmt.Sprintf("not %v == 0", a)} {
			byHand{op, a, a, want}.check(t)
		}
	}
	for _, c := range []byHand{
		{set, cut(w1, 0xf0), cut(w1, 0xf0), "w1 & 240"}, {set, cut(w1, top), cut(w1, top), "not w1 == 0"}, {set, cut(w1, 0), cut(w1, 0), "never"}, {set, cut(w1, 6, 3), cut(w1, 6, 3), "w1 & 2"}, {set, cut(num(6), 3), cut(num(6), 3), "always"}, {eq, cut(w1, 6), cut(w1, 6), "always"}, {gt, cut(w1, 6), cut(w1, 6), "never"}, {ge, cut(w1, 6), cut(w1, 6), "always"},
		// numbers at one place
		{eq, num(0), num(0), "always"}, {gt, num(top), num(top), "never"}, {ge, num(0), num(0), "always"}, {set, num(0), num(0), "never"}, {set, num(1), num(1), "always"},
		// terms of one value always, at unlike places
		{eq, w1, of(add, w1, num(0)), "w1 == (w1 0 0)"}, {gt, w1, of(add, w1, num(0)), "w1 > (w1 0 0)"}, {ge, of(sub, num(3), num(2)), num(1), "not (3 10 2) == 0"}, {eq, of(sub, w1, w1), of(sub, w2, w2), "(w1 10 w1) == (w2 10 w2)"},
	} {
		c.check(t)
	}
	for _, op := range ops {
		byHand{op, w1, w2, fmt.Sprintf("w1 %s w2", signs[op])}.check(t)
		byHand{op, w2, w1, fmt.Sprintf("w2 %s w1", signs[op])}.check(t)
		byHand{op, one, of(neg, w1, nil), fmt.Sprintf("(w1 10 w2) %s (-w1)", signs[op])}.check(t)
	}
}

// P13.1 and P13.3: each op of each two of many terms, against the rules as they are written out here.
func TestMakeOfMany(t *testing.T) {
	terms := []*tree{w1, w2, one, of(neg, w1, nil), of(and, w1, w2), of(and, num(6), w1)}
	for _, k := range append(limits, 3, 5, 6, 0xf0, half-1) {
		terms = append(terms, num(k), cut(w1, k), cut(w1, 0xf5, k), cut(num(9), k), of(add, w1, num(k)))
	}
	for _, op := range ops {
		for _, a := range terms {
			for _, b := range terms {
				checkMake(t, op, a, b, told(op, a, b))
			}
		}
	}
}

// drawnPool is a pool of nodes that look like any.
func drawnPool(d *draw, nodes int) *term.Pool {
	p := term.New()
	for tries := 0; len(p.Nodes()) < nodes && tries < 100; tries++ {
		n := len(p.Nodes())
		switch kind := d.below(6); {
		case n == 0 || kind == 0:
			p.Put(api.Node{Op: 2, K: uint32(d.below(3))})
		case kind == 1:
			p.Put(api.Node{Op: 1, K: d.number()})
		case kind == 2:
			p.Put(api.Node{Op: 0x100 + []int{add, sub}[d.below(2)], A: d.below(n), B: d.below(n)})
		case kind == 3:
			p.Put(api.Node{Op: 0x180, A: d.below(n)})
		default:
			p.Put(api.Node{Op: 0x150, A: n - 1 - d.below(min(n, 3)), B: d.below(n)})
		}
	}
	return p
}

// P13.1 and P13.3: of many pools, ops and records drawn; one pool is asked many times, and stays as it was but for the numbers.
func TestMakeDrawn(t *testing.T) {
	d := draw(5)
	seen := map[int]int{}
	for range 6000 {
		p := drawnPool(&d, 1+d.below(12))
		for range 6 {
			was := p.Nodes()
			op, a, b, not := ops[d.below(4)], d.below(len(was)), d.below(len(was)), d.below(2) == 1
			left, right := grown(was, a), grown(was, b)
			want := told(op, left, right)
			if not {
				want = want.turned()
			}
			more := need(p, want)
			x, known, e := Make(p, op, a, b, not)
			if e != api.OK || known != want.known {
				t.Fatalf("%v %s %v (%v): %d %d, not %v", left, signs[op], right, not, known, e, want)
			}
			if is := read(t, p, x, known); is.String() != want.String() {
				t.Fatalf("%v %s %v (%v): %v, not %v", left, signs[op], right, not, is, want)
			}
			checkKept(t, p, was, len(was)+more)
			nodes := p.Nodes()
			for range 4 {
				r := d.record()
				if so(t, nodes, x, known, r) != (asked(op, left.value(r), right.value(r)) != not) {
					t.Fatalf("%v %s %v (%v) isn't so where %v is, of %v", left, signs[op], right, not, want, r)
				}
			}
			if known == 1 {
				checkAgain(t, p, x)
			}
			seen[known]++
		}
	}
	for known := 1; known <= 3; known++ {
		if seen[known] < 3000 {
			t.Error("too few of one kind", seen)
		}
	}
}

// noPlaces are places that a row of so many nodes hasn't got.
func noPlaces(nodes int) []int {
	return []int{-1, nodes, nodes + 1, math.MinInt, math.MaxInt, -nodes - 1, longest + nodes}
}

// noOps are none of the four: others of api, sums of two, and ops with other bits set.
func noOps() []int {
	out := []int{0, 1, 2, 3, 4, 0x50, 0x60, 0x70, 0x80, 0xa0, 0xf0, -1, -0x10, -0x40, math.MinInt, math.MaxInt}
	for _, op := range ops {
		out = append(out, op|8, op|1, op|5, op|0x100, op|0x80, op|1<<32, op|1<<62, op|math.MinInt, ^op, op<<4, op>>4)
	}
	return out
}

// P13.1: errors, and which one comes first.
func TestMakeErrors(t *testing.T) {
	checkNot := func(p *term.Pool, op, a, b int, want api.Errno) {
		t.Helper()
		for _, not := range []bool{false, true} {
			if x, known, e := Make(p, op, a, b, not); x != (api.Atom{}) || known != 0 || e != want {
				t.Fatalf("%x of %d and %d: %v %d %d, not %d", op, a, b, x, known, e, want)
			}
		}
	}
	full, _ := poolOf(t, w1, num(7), one)
	fill(full, longest)
	some, _ := poolOf(t, w1, num(7), one)
	for _, p := range []*term.Pool{term.New(), {}, some, full} {
		was := p.Nodes()
		places := append(noPlaces(len(was)), 0, 1, 2, len(was)-1)
		for _, a := range places {
			for _, b := range places {
				for _, op := range noOps() {
					checkNot(p, op, a, b, api.ErrArg)
				}
				for _, op := range ops {
					if a < 0 || a >= len(was) || b < 0 || b >= len(was) {
						checkNot(p, op, a, b, api.ErrRange)
					}
				}
			}
		}
		checkKept(t, p, was, len(was))
	}
	for _, op := range append(noOps(), ops...) {
		for _, at := range append(noPlaces(0), 1) {
			checkNot(nil, op, at, 0, api.ErrNil)
			checkNot(nil, op, 0, at, api.ErrNil)
		}
	}
	// the last place is one
	if x, known, e := Make(some, eq, 0, 3, false); x != (api.Atom{Op: 0x10, B: 3}) || known != 1 || e != api.OK {
		t.Error(x, known, e)
	}
}

// fill puts numbers that nothing else has into a pool, till so many nodes are in it.
func fill(p *term.Pool, nodes int) {
	for k := uint32(0x5a000000); ; k++ {
		if _, is := p.At(nodes - 1); is {
			return
		}
		p.Put(api.Node{Op: 1, K: k})
	}
}

// checkFull asks for an op of two trees of a pool that has room for no number, and of one that has room for one.
func checkFull(t *testing.T, op int, a, b *tree) {
	t.Helper()
	for room := range 2 {
		p, at := poolOf(t, a, b)
		fill(p, longest-room)
		was, want := p.Nodes(), told(op, a, b)
		more := need(p, want)
		for _, not := range []bool{false, true} {
			x, known, e := Make(p, op, at[0], at[1], not)
			if more > room {
				if x != (api.Atom{}) || known != 0 || e != api.ErrLong {
					t.Fatalf("%v %s %v, with no room: %v %d %d", a, signs[op], b, x, known, e)
				}
			} else if e != api.OK || known != want.known || known == 1 && read(t, p, x, known).String() != want.String() {
				t.Fatalf("%v %s %v, with room for %d: %v %d %d, not %v", a, signs[op], b, room, x, known, e, want)
			}
			checkKept(t, p, was, len(was)+min(more, room))
			want = want.turned()
		}
	}
}

// P13.1: full pools, where the number that is needed stands in them, where it doesn't, and where none is needed.
func TestMakeFull(t *testing.T) {
	short := map[bool]int{}
	for _, c := range []byHand{
		// the number is needed, and isn't there
		{ge, w1, num(9), ""}, {ge, w1, num(1), ""}, {gt, num(9), w1, ""}, {gt, num(1), w1, ""}, {set, w1, num(top), ""}, {set, w1, w1, ""}, {set, one, one, ""}, {set, cut(w1, 0xf0), num(0x3c), ""}, {set, cut(w1, 6, 3), cut(w1, 6, 3), ""}, {eq, cut(w1, 6, 3), num(0), ""}, {ge, w1, num(top), ""}, {set, cut(w1, top), num(top), ""}, {gt, num(top), w1, ""},
		// it is there
		{eq, w1, num(9), ""}, {eq, num(9), w1, ""}, {gt, w1, num(9), ""}, {gt, w1, num(0), ""}, {ge, num(9), w1, ""}, {ge, num(0), w1, ""}, {set, w1, num(9), ""}, {set, num(9), w1, ""}, {set, cut(w1, 0xf0), num(0xf0), ""}, {set, cut(w1, 0xf0), num(top), ""}, {eq, cut(w1, 0xf0), num(0), ""}, {set, cut(w1, 0xf0), cut(w1, 0xf0), ""}, {ge, of(add, w1, num(8)), num(9), ""},
		// numbers that the rules come by are no needed ones
		{ge, cut(w1, 0xf0), num(1), ""}, {gt, num(1), cut(w1, 0xf0), ""}, {set, cut(w1, 0x30, 0xf0), num(0x7f), ""},
		// none is needed
		{eq, num(9), num(8), ""}, {set, num(9), num(8), ""}, {gt, w1, num(top), ""}, {ge, w1, num(0), ""}, {set, w1, num(0), ""}, {gt, num(0), w1, ""}, {ge, num(top), w1, ""}, {eq, w1, w1, ""}, {gt, w1, w1, ""}, {ge, one, one, ""}, {eq, w1, w2, ""}, {gt, one, w2, ""}, {eq, cut(w1, 0xf0), num(1), ""}, {set, cut(w1, 0xf0), num(0x0f), ""}, {eq, cut(w1, 0x0f, 0xf0), num(0), ""},
	} {
		checkFull(t, c.op, c.a, c.b)
		p, _ := poolOf(t, c.a, c.b)
		short[need(p, told(c.op, c.a, c.b)) > 0]++
	}
	if short[true] != 13 || short[false] != 31 {
		t.Error(short)
	}
}

// P13.1 and P13.3: the longest way down: of a term that was cut as often as a pool has room for.
func TestMakeDeepest(t *testing.T) {
	p := term.New()
	last := 0
	for k := range 3 {
		p.Put(api.Node{Op: 2, K: uint32(k)})
	}
	six, _ := p.Put(api.Node{Op: 1, K: 6})
	seven, _ := p.Put(api.Node{Op: 1, K: 7})
	five, _ := p.Put(api.Node{Op: 1, K: 5})
	zero, _ := p.Put(api.Node{Op: 1, K: 0})
	four, _ := p.Put(api.Node{Op: 1, K: 4})
	for {
		at, e := p.Put(api.Node{Op: 0x150, A: last, B: []int{six, seven}[last%2]})
		if e != api.OK {
			break
		}
		last = at
	}
	if last != longest-1 {
		t.Fatal(last)
	}
	for _, c := range []struct {
		op, b int
		not   bool
		want  api.Atom
	}{{set, five, false, api.Atom{Op: set, B: four}}, {eq, zero, false, api.Atom{Op: set, B: six, Not: true}}, {gt, zero, false, api.Atom{Op: set, B: six}}, {set, last, true, api.Atom{Op: set, B: six, Not: true}}, {eq, six, true, api.Atom{Op: eq, A: last, B: six, Not: true}}} {
		if x, known, e := Make(p, c.op, last, c.b, c.not); x != c.want || known != 1 || e != api.OK {
			t.Errorf("%x of %d: %v %d %d, not %v", c.op, c.b, x, known, e, c.want)
		}
	}
}

// n1, n2 and nn are nodes: a number, a word, and what is reckoned.
func n1(k uint32) api.Node         { return api.Node{Op: 1, K: k} }
func n2(w uint32) api.Node         { return api.Node{Op: 2, K: w} }
func nn(op, a, b int) api.Node     { return api.Node{Op: 0x100 + op, A: a, B: b} }
func row(n ...api.Node) []api.Node { return n }

// badRows are rows that may not be.
func badRows() [][]api.Node {
	return [][]api.Node{row(api.Node{}), row(n2(16)), row(nn(add, 0, 0)), row(n1(1), nn(add, 0, 1)), row(n1(1), nn(add, -1, 0)), row(n1(1), nn(0x90, 0, 0)), row(n1(1), nn(neg, 0, 1)), row(n2(0), n2(1), api.Node{Op: 1, A: 1}), row(n2(0), api.Node{Op: 0x110, K: 1}), append(slices.Repeat(row(n2(0)), longest-1), n2(16)), slices.Repeat(row(n2(0)), longest+1)}
}

// checkFault asks for what is wrong with an atom, alone and of a record.
func checkFault(t *testing.T, nodes []api.Node, a api.Atom, want api.Errno) {
	t.Helper()
	if e := Check(nodes, a); e != want {
		t.Fatalf("%v of %d nodes: %d, not %d", a, len(nodes), e, want)
	}
	if is, e := Holds(nodes, a, api.Record{}); e != want || is && want != api.OK {
		t.Fatalf("%v of %d nodes: %v %d, not %d", a, len(nodes), is, e, want)
	}
}

// P13.2: what is wrong with an atom, and which fault comes first.
func TestCheck(t *testing.T) {
	for _, nodes := range badRows() {
		for _, a := range []api.Atom{{}, {Op: eq}, {Op: eq, Not: true}, {Op: 7, A: -1}, {Op: set, A: -1}, {Op: gt, B: longest + 5}} {
			checkFault(t, nodes, a, api.ErrForm)
		}
	}
	long := slices.Repeat(row(n2(0)), longest)
	for _, nodes := range [][]api.Node{nil, {}, row(n1(3)), row(n2(3), n2(3), nn(sub, 0, 1)), long} {
		places := []int{0, len(nodes) / 2, len(nodes) - 1}
		none, bad := noPlaces(len(nodes)), noOps()
		if len(nodes) == 0 {
			places, none = nil, append(none, 0)
		}
		if len(nodes) == longest {
			// each call goes through the whole row
			bad = bad[:4]
		}
		for _, not := range []bool{false, true} {
			for _, op := range bad {
				for _, at := range append(none, places...) {
					checkFault(t, nodes, api.Atom{Op: op, A: at, Not: not}, api.ErrArg)
					checkFault(t, nodes, api.Atom{Op: op, B: at, Not: not}, api.ErrArg)
				}
			}
			for _, op := range ops {
				for _, at := range none {
					checkFault(t, nodes, api.Atom{Op: op, A: at, Not: not}, api.ErrRange)
					checkFault(t, nodes, api.Atom{Op: op, B: at, Not: not}, api.ErrRange)
				}
				for _, a := range places {
					for _, b := range places {
						checkFault(t, nodes, api.Atom{Op: op, A: a, B: b, Not: not}, api.OK)
					}
				}
			}
		}
	}
	// what stands in the spare room is no part of the row
	checkFault(t, row(n1(3), n1(4))[:1], api.Atom{Op: eq, B: 1}, api.ErrRange)
	checkFault(t, row(n1(3), api.Node{})[:1], api.Atom{Op: eq}, api.OK)
}

// P13.2: atoms of words and numbers at their limits.
func TestHoldsByHand(t *testing.T) {
	nodes := row(n2(4), n2(11), n1(half), nn(sub, 0, 1))
	for _, c := range []struct {
		op, a, b int
		x, y     uint32
		want     bool
	}{
		{eq, 0, 1, 0, 0, true}, {eq, 0, 1, top, top, true}, {eq, 0, 1, 0, top, false}, {eq, 0, 1, half, 0, false}, {eq, 0, 2, half, 0, true}, {eq, 2, 0, half - 1, 0, false}, {eq, 3, 1, 6, 3, true},
		{gt, 0, 1, 1, 0, true}, {gt, 0, 1, 0, 1, false}, {gt, 1, 0, 0, 1, true}, {gt, 0, 1, top, top, false}, {gt, 0, 1, top, half, true}, {gt, 0, 1, half, half - 1, true}, {gt, 0, 2, half, 0, false}, {gt, 2, 0, half - 1, 0, true}, {gt, 3, 0, 0, 1, true},
		{ge, 0, 1, 1, 0, true}, {ge, 0, 1, 0, 0, true}, {ge, 0, 1, 0, 1, false}, {ge, 1, 0, 0, 1, true}, {ge, 0, 1, top, top, true}, {ge, 0, 1, half - 1, half, false}, {ge, 0, 2, half, 0, true}, {ge, 3, 3, 5, 9, true},
		{set, 0, 1, 6, 8, false}, {set, 0, 1, 6, 2, true}, {set, 0, 1, half, top, true}, {set, 0, 1, half - 1, half, false}, {set, 0, 1, 0, top, false}, {set, 0, 2, top, 0, true}, {set, 2, 1, 0, half - 1, false}, {set, 3, 3, 4, 4, false}, {set, 0, 0, 4, 0, true},
	} {
		r := api.Record{4: c.x, 11: c.y}
		for _, not := range []bool{false, true} {
			is, e := Holds(nodes, api.Atom{Op: c.op, A: c.a, B: c.b, Not: not}, r)
			if is != (c.want != not) || e != api.OK {
				t.Errorf("%x of %d and %d (%v), of %d and %d: %v %d", c.op, c.a, c.b, not, c.x, c.y, is, e)
			}
		}
	}
}

// P13.2: atoms of rows drawn, against values that are reckoned otherwise; and, turned, so just where the atom isn't.
func TestHoldsDrawn(t *testing.T) {
	d := draw(8)
	count := 0
	for range 3000 {
		nodes := drawnPool(&d, 1+d.below(10)).Nodes()
		a := api.Atom{Op: ops[d.below(4)], A: d.below(len(nodes)), B: d.below(len(nodes)), Not: d.below(2) == 1}
		r := d.record()
		want := asked(a.Op, grown(nodes, a.A).value(r), grown(nodes, a.B).value(r)) != a.Not
		if is, e := Holds(nodes, a, r); is != want || e != api.OK {
			t.Fatalf("%v of %v: %v %d", a, nodes, is, e)
		}
		if is, e := Holds(nodes, Turned(a), r); is == want || e != api.OK {
			t.Fatalf("%v turned of %v: %v %d", a, nodes, is, e)
		}
		if want {
			count++
		}
	}
	if count < 1000 || count > 2000 {
		t.Error("too few of one kind", count)
	}
}

// P13.2: an atom turned has all else as it was, and turned twice it is the same, though it may not be.
func TestTurned(t *testing.T) {
	for _, a := range []api.Atom{{}, {Op: eq}, {Op: gt, A: 3, B: 4}, {Op: ge, A: 4, B: 3}, {Op: set, A: 65535, B: 65535}, {Op: -9, A: -1, B: math.MaxInt}, {Op: math.MinInt, A: math.MinInt, B: -1}, {A: 1}, {B: 1}} {
		b := a
		b.Not = true
		if x := Turned(a); x != b {
			t.Errorf("%v turned: %v", a, x)
		}
		if x := Turned(b); x != a {
			t.Errorf("%v turned: %v", b, x)
		}
		if x := Turned(Turned(b)); x != b {
			t.Errorf("%v turned twice: %v", b, x)
		}
	}
}

// P13.3, and rules 3, 4 and 6: arguments and their spare room stay, pools have nothing of one another, and a call asked again tells the same.
func TestNothingShared(t *testing.T) {
	nodes := append(make([]api.Node, 0, 20), n1(5), n2(6), nn(sub, 1, 0))
	room, was := nodes[:20], slices.Clone(nodes[:20])
	for range 2 {
		a := api.Atom{Op: gt, A: 2, B: 0}
		is, e := Holds(nodes, a, api.Record{6: 11})
		if !is || e != api.OK || Check(nodes, a) != api.OK || !slices.Equal(room, was) {
			t.Fatal(is, e, room)
		}
	}
	p, at := poolOf(t, w1, num(9))
	q, _ := poolOf(t, w1, num(9))
	for range 2 {
		for _, pool := range []*term.Pool{p, q} {
			if x, known, e := Make(pool, ge, at[0], at[1], true); x != (api.Atom{Op: gt, A: 0, B: 2, Not: true}) || known != 1 || e != api.OK {
				t.Fatal(x, known, e)
			}
		}
		if !slices.Equal(p.Nodes(), row(n2(1), n1(9), n1(8))) || !slices.Equal(q.Nodes(), p.Nodes()) {
			t.Fatal(p.Nodes(), q.Nodes())
		}
	}
	// a pool that New didn't make
	var own term.Pool
	lay(t, &own, w1)
	if x, known, e := Make(&own, set, 0, 0, false); x != (api.Atom{Op: eq, B: 1, Not: true}) || known != 1 || e != api.OK {
		t.Error(x, known, e)
	}
}
