package symex

import (
	"fmt"
	"math"
	"slices"
	"strings"
	"testing"

	"tamis/api"
	"tamis/asm"
	"tamis/atom"
	"tamis/machine"
	"tamis/paths"
	"tamis/simp"
	"tamis/term"
	"tamis/verify"
)

const (
	top  = math.MaxUint32
	half = 1 << 31
	// most is the greatest budget, and longest how many instructions a filter has at most, written out.
	most    = 8192
	longest = 4096
)

// read is the program of a text whose lines are parted by semicolons.
func read(t testing.TB, text string) []api.Instr {
	t.Helper()
	list, at, e := asm.Read(strings.ReplaceAll(text, "; ", "\n") + "\n")
	if e != api.OK {
		t.Fatalf("%q: %d at %d", text, e, at)
	}
	return list
}

// program is the text of a list, for what a test tells.
func program(list []api.Instr) string {
	if len(list) > 60 {
		return fmt.Sprintf("%d instructions", len(list))
	}
	text, _ := asm.Print(list)
	return strings.ReplaceAll(strings.TrimSuffix(text, "\n"), "\n", "; ")
}

// signs are how terms and atoms are written in the tests.
var (
	signs = map[int]string{0x00: "+", 0x10: "-", 0x20: "*", 0x30: "/", 0x40: "|", 0x50: "&", 0x60: "<<", 0x70: ">>", 0xa0: "^"}
	asks  = map[int]string{0x10: "==", 0x20: ">", 0x30: ">=", 0x40: "&"}
)

// written is a term, written out.
func written(row []api.Node, at int) string {
	switch n := row[at]; n.Op {
	case 1:
		return fmt.Sprint(n.K)
	case 2:
		return fmt.Sprintf("w%d", n.K)
	case 0x180:
		return fmt.Sprintf("(-%s)", written(row, n.A))
	default:
		return fmt.Sprintf("(%s %s %s)", written(row, n.A), signs[n.Op-0x100], written(row, n.B))
	}
}

// line is a path, written out: its places, its atoms and its answer.
func line(row []api.Node, p Path) string {
	var atoms []string
	for _, a := range p.Atoms {
		text := fmt.Sprintf("%s %s %s", written(row, a.A), asks[a.Op], written(row, a.B))
		if a.Not {
			text = "not " + text
		}
		atoms = append(atoms, text)
	}
	return fmt.Sprintf("%s [%s] %s", strings.Trim(fmt.Sprint(p.Places), "[]"), strings.Join(atoms, ", "), written(row, p.Action))
}

// checkRow holds that a row may be, that each node is there once, and that it has what the paths say.
func checkRow(t *testing.T, row []api.Node, found []Path) {
	t.Helper()
	if at, e := term.Check(row); e != api.OK {
		t.Fatalf("the row may not be: %d at %d", e, at)
	}
	seen := map[api.Node]int{}
	for _, n := range row {
		seen[n]++
	}
	if len(seen) != len(row) {
		t.Fatal("a node is there more than once")
	}
	for _, p := range found {
		if p.Action < 0 || p.Action >= len(row) {
			t.Fatalf("an answer at %d of %d", p.Action, len(row))
		}
		for _, a := range p.Atoms {
			if asks[a.Op] == "" || a.A < 0 || a.A >= len(row) || a.B < 0 || a.B >= len(row) {
				t.Fatalf("%v of %d", a, len(row))
			}
		}
	}
}

// beginnings is how many unlike beginnings the paths' places have, of one place at least, each one numbered by the one that is a place shorter, and its last place.
func beginnings(found []Path) int {
	numbers := map[[2]int]int{}
	for _, p := range found {
		number := 0
		for _, at := range p.Places {
			key := [2]int{number, at}
			if numbers[key] == 0 {
				numbers[key] = len(numbers) + 1
			}
			number = numbers[key]
		}
	}
	return len(numbers)
}

// alike tells whether two answers of Walk are the same.
func alike(row, other []api.Node, found, more []Path) bool {
	return slices.Equal(row, other) && slices.EqualFunc(found, more, func(a, b Path) bool {
		return slices.Equal(a.Places, b.Places) && slices.Equal(a.Atoms, b.Atoms) && a.Action == b.Action
	})
}

// checkRefused holds that both calls tell this error, and nothing beside it.
func checkRefused(t *testing.T, list []api.Instr, budget int, want api.Errno) {
	t.Helper()
	if row, found, e := Walk(list, budget); e != want || row != nil || found != nil {
		t.Fatalf("%s with %d: %d nodes, %d paths, %d, not %d", program(list), budget, len(row), len(found), e, want)
	}
	if n, e := Steps(list, budget); e != want || n != 0 {
		t.Fatalf("%s with %d: %d, %d, not %d", program(list), budget, n, e, want)
	}
}

// checkBudgets holds that a walk has so many steps, and that this many are enough, and one less is not.
func checkBudgets(t *testing.T, list []api.Instr, steps int, row []api.Node, found []Path) {
	t.Helper()
	for _, budget := range []int{steps, most} {
		if n, e := Steps(list, budget); n != steps || e != api.OK {
			t.Fatalf("%s with %d: %d, %d, not %d", program(list), budget, n, e, steps)
		}
		other, more, e := Walk(list, budget)
		if e != api.OK || !alike(row, other, found, more) {
			t.Fatalf("%s with %d: %d, or another walk", program(list), budget, e)
		}
	}
	checkRefused(t, list, steps-1, api.ErrBudget)
	checkRefused(t, list, 0, api.ErrBudget)
}

// checkWalk walks a filter and holds what doesn't hang on what its paths are.
func checkWalk(t *testing.T, list []api.Instr) ([]api.Node, []Path) {
	t.Helper()
	row, found, e := Walk(list, most)
	if e != api.OK {
		t.Fatalf("%s: %d", program(list), e)
	}
	checkRow(t, row, found)
	checkBudgets(t, list, beginnings(found), row, found)
	return row, found
}

// checkLines holds a filter's paths against those that were found by hand.
func checkLines(t *testing.T, list []api.Instr, want []string) {
	t.Helper()
	row, found := checkWalk(t, list)
	var lines []string
	for _, p := range found {
		lines = append(lines, line(row, p))
	}
	if !slices.Equal(lines, want) {
		t.Errorf("%s:\n%s\nnot\n%s", program(list), strings.Join(lines, "\n"), strings.Join(want, "\n"))
	}
}

// byHand is a filter, and its paths.
type byHand struct {
	text string
	want []string
}

func checkAll(t *testing.T, cases []byHand) {
	t.Helper()
	for _, c := range cases {
		list := read(t, c.text)
		checkLines(t, list, c.want)
		checkLines(t, scribbled(list), c.want)
	}
}

// scribbled is a filter that has something in all that its instructions don't look at.
func scribbled(list []api.Instr) []api.Instr {
	list = slices.Clone(list)
	for at, i := range list {
		if i.Code&7 != 5 || i.Code == 0x05 {
			list[at].Jt, list[at].Jf = 3, 200
		}
		switch i.Code {
		case 0x80, 0x81, 0x84, 0x07, 0x87, 0x16, 0x0c, 0x1c, 0x2c, 0x3c, 0x4c, 0x5c, 0x6c, 0x7c, 0xac, 0x1d, 0x2d, 0x3d, 0x4d:
			list[at].K = 77 + uint32(at)
		}
	}
	return list
}

func one(want string) []string { return []string{want} }

// P14.1: the examples.
func TestExamples(t *testing.T) {
	text := "ld 0; jeq 5 0 1; ret 1; ret 2"
	checkAll(t, []byHand{{text, []string{"0 1 2 [w0 == 5] 1", "0 1 3 [not w0 == 5] 2"}}})
	if n, e := Steps(read(t, text), most); n != 4 || e != api.OK {
		t.Error(n, e)
	}
}

// noFilters are programs that are none, each for a reason of its own.
func noFilters(t *testing.T) [][]api.Instr {
	ret := api.Instr{Code: 0x06}
	out := [][]api.Instr{nil, {}, slices.Repeat([]api.Instr{ret}, longest+1), {{Code: 0x30}, ret}, {{Code: 0x16}, {Code: 0x26}}}
	for _, text := range []string{
		"ld 0", "ret 1; ld 0", "ld 64; ret 1", "ld 2; ret 1", "ldm 0; ret 1", "ldxm 3; ret 1", "st 16; ret 1",
		"ld 0; st 1; ldm 2; reta", "ld 0; jeq 5 0 1; st 1; ldm 1; reta", "div 0; ret 1", "lsh 32; ret 1", "rsh 99; ret 1",
		"ja 1; ret 1", "jeq 5 0 1; ret 1", "jeq 5 1 0; ret 1", "ret 1; stx 16; ret 1",
	} {
		out = append(out, read(t, text))
	}
	return out
}

// P14.1: what is no filter, and budgets that may not be; both are told ahead of what is no budget enough.
func TestErrArg(t *testing.T) {
	for _, list := range noFilters(t) {
		for _, budget := range []int{0, 1, 100, most, -1, most + 1} {
			checkRefused(t, list, budget, api.ErrArg)
		}
	}
	for _, list := range [][]api.Instr{read(t, "ret 1"), read(t, "ld 0; jeq 5 0 1; ret 1; ret 2"), ladder(2, 20)} {
		if !verify.Right(list) {
			t.Fatal(program(list))
		}
		for _, budget := range []int{-1, -2, math.MinInt, most + 1, most + 2, math.MaxInt} {
			checkRefused(t, list, budget, api.ErrArg)
		}
	}
}

// P14.1: each budget from 0 on, of a few filters, and the steps of them, counted by hand.
func TestBudgets(t *testing.T) {
	for _, c := range []struct {
		text  string
		steps int
	}{
		{"ret 1", 1},
		{"reta", 1},
		{"ld 0; reta", 2},
		{"ja 0; ret 1", 2},
		{"ja 1; ret 1; ret 2", 2},
		// both sides are one place; one side alone
		{"ld 0; jeq 1 0 0; ret 1", 3},
		{"ld 0; jeq 1 1 1; ret 1; ret 2", 3},
		{"ldi 7; jgt 6 0 1; ret 1; ret 2", 3},
		{"ldi 7; jgt 7 0 1; ret 1; ret 2", 3},
		// 0, 0 1, and each side; then what comes behind both, for each
		{"ld 0; jeq 1 0 1; ret 1; ret 2", 4},
		{"ld 0; jeq 1 0 1; ja 0; ret 2", 5},
		{"ld 0; jeq 1 0 1; ja 0; ja 0; ret 2", 7},
		{"ld 0; jeq 1 0 2; ldi 1; ja 1; ldi 2; st 0; reta", 9},
		// three ways: 0 1 2 3, 0 1 2 4, 0 1 4
		{"ld 0; jeq 1 0 2; jeq 2 0 1; ret 1; ret 2", 6},
		// 2 + 2 * (1 + 2), and the ja
		{"ld 0; jeq 1 0 1; ja 0; jeq 2 0 1; ret 1; ret 2", 9},
		// an end by division is a beginning of the way that goes on
		{"ld 4; tax; ldi 100; divx; reta", 5},
		{"ld 4; tax; divx; divx; divx; reta", 6},
		{"divx; ret 1", 1},
		{"ldxi 2; divx; ret 1", 3},
		{"ld 4; tax; jeq 1 0 1; divx; ret 2", 6},
	} {
		list := read(t, c.text)
		for budget := range c.steps + 3 {
			if budget < c.steps {
				checkRefused(t, list, budget, api.ErrBudget)
			} else if n, e := Steps(list, budget); n != c.steps || e != api.OK {
				t.Fatalf("%s with %d: %d, %d", c.text, budget, n, e)
			} else if _, found, e := Walk(list, budget); e != api.OK || beginnings(found) != n {
				t.Fatalf("%s with %d: %d, %d beginnings", c.text, budget, e, beginnings(found))
			}
		}
	}
}

// P14.1: loads, of words, of the length and of numbers; A and X are 0 at first.
func TestLoads(t *testing.T) {
	for w := range 16 {
		checkAll(t, []byHand{{fmt.Sprintf("ld %d; reta", 4*w), one(fmt.Sprintf("0 1 [] w%d", w))}})
	}
	checkAll(t, []byHand{
		{"ret 0", one("0 [] 0")},
		{"ret 4294967295", one("0 [] 4294967295")},
		{"ld 8; ret 7", one("0 1 [] 7")},
		{"reta", one("0 [] 0")},
		{"txa; reta", one("0 1 [] 0")},
		{"ld 0; txa; reta", one("0 1 2 [] 0")},
		{"ldi 7; reta", one("0 1 [] 7")},
		{"ldlen; reta", one("0 1 [] 64")},
		{"ldxi 7; reta", one("0 1 [] 0")},
		{"ldxi 7; txa; reta", one("0 1 2 [] 7")},
		{"ldxlen; reta", one("0 1 [] 0")},
		{"ldxlen; txa; reta", one("0 1 2 [] 64")},
		{"ld 0; ldxi 7; reta", one("0 1 2 [] w0")},
		{"ldxi 7; ld 0; txa; reta", one("0 1 2 3 [] 7")},
		{"ldxi 7; ldlen; txa; reta", one("0 1 2 3 [] 7")},
		{"ldxi 7; ldi 8; txa; reta", one("0 1 2 3 [] 7")},
		{"ldi 7; ldxlen; reta", one("0 1 2 [] 7")},
		{"ld 4; tax; reta", one("0 1 2 [] w1")},
		{"ld 4; tax; ld 8; txa; reta", one("0 1 2 3 4 [] w1")},
		{"ld 4; tax; ld 8; txa; ldi 3; txa; reta", one("0 1 2 3 4 5 6 [] w1")},
		{"ld 4; tax; ldi 3; tax; txa; reta", one("0 1 2 3 4 5 [] 3")},
	})
}

// P14.1: scratch words keep the term that was there; A and X stay as they are.
func TestScratchWords(t *testing.T) {
	for w := range 16 {
		checkAll(t, []byHand{
			{fmt.Sprintf("ld 0; st %d; ld 4; ldm %d; reta", w, w), one("0 1 2 3 4 [] w0")},
			{fmt.Sprintf("ld 0; st %d; ld 4; ldxm %d; reta", w, w), one("0 1 2 3 4 [] w1")},
			{fmt.Sprintf("ld 0; st %d; ld 4; ldxm %d; txa; reta", w, w), one("0 1 2 3 4 5 [] w0")},
			{fmt.Sprintf("ld 0; tax; stx %d; ld 4; ldm %d; reta", w, w), one("0 1 2 3 4 5 [] w0")},
		})
	}
	checkAll(t, []byHand{
		{"ld 0; st 3; reta", one("0 1 2 [] w0")},
		{"ldxi 5; stx 3; reta", one("0 1 2 [] 0")},
		{"ldxi 5; stx 3; txa; reta", one("0 1 2 3 [] 5")},
		{"ldxi 5; ld 0; st 3; txa; reta", one("0 1 2 3 4 [] 5")},
		{"ldxi 5; ld 0; st 3; ldm 3; txa; reta", one("0 1 2 3 4 5 [] 5")},
		{"ld 0; st 3; ld 4; st 3; ldm 3; reta", one("0 1 2 3 4 5 [] w1")},
		{"ld 0; st 3; add 1; ldm 3; reta", one("0 1 2 3 4 [] w0")},
		{"ld 0; st 3; ldi 9; st 4; ldm 3; ldxm 4; addx; reta", one("0 1 2 3 4 5 6 7 [] (w0 + 9)")},
		// what no way comes to isn't done
		{"ret 1; ldm 3; reta", one("0 [] 1")},
		{"ja 1; ldm 3; reta", one("0 2 [] 0")},
	})
	// all words at once, the last ones first
	var text, want strings.Builder
	for w := range 16 {
		fmt.Fprintf(&text, "ld %d; st %d; ", 4*w, 15-w)
		fmt.Fprintf(&want, "%d %d ", 2*w, 2*w+1)
	}
	for w := range 16 {
		checkAll(t, []byHand{{fmt.Sprintf("%sldm %d; reta", &text, w), one(fmt.Sprintf("%s32 33 [] w%d", &want, 15-w))}})
	}
}

// P14.1: what is kept on one side of a parting isn't on the other.
func TestSidesApart(t *testing.T) {
	checkAll(t, []byHand{
		{"ldi 9; st 0; ld 0; jeq 5 0 2; ldi 1; st 0; ldm 0; reta", []string{
			"0 1 2 3 4 5 6 7 [w0 == 5] 1",
			"0 1 2 3 6 7 [not w0 == 5] 9"}},
		{"ldxi 9; ld 0; jeq 5 0 1; ldxi 1; txa; reta", []string{
			"0 1 2 3 4 5 [w0 == 5] 1",
			"0 1 2 4 5 [not w0 == 5] 9"}},
		{"ld 0; jeq 5 0 1; ldi 1; reta", []string{
			"0 1 2 3 [w0 == 5] 1",
			"0 1 3 [not w0 == 5] w0"}},
		{"ld 4; tax; ldi 100; divx; add 1; reta", []string{
			"0 1 2 3 [w1 == 0] 0",
			"0 1 2 3 4 5 [not w1 == 0] ((100 / w1) + 1)"}},
	})
}

// P14.1: what is reckoned by a number: the term of all ten, and of two numbers their number.
func TestReckonedByNumber(t *testing.T) {
	for _, c := range []struct {
		name, sign string
		of12       uint32
	}{
		{"add", "+", 17}, {"sub", "-", 7}, {"mul", "*", 60}, {"div", "/", 2}, {"or", "|", 13},
		{"and", "&", 4}, {"lsh", "<<", 384}, {"rsh", ">>", 0}, {"xor", "^", 9},
	} {
		checkAll(t, []byHand{
			{fmt.Sprintf("ld 0; %s 5; reta", c.name), one(fmt.Sprintf("0 1 2 [] (w0 %s 5)", c.sign))},
			{fmt.Sprintf("ldi 12; %s 5; reta", c.name), one(fmt.Sprintf("0 1 2 [] %d", c.of12))},
			// X has nothing to do with it, and stays
			{fmt.Sprintf("ldxi 3; ld 0; %s 5; reta", c.name), one(fmt.Sprintf("0 1 2 3 [] (w0 %s 5)", c.sign))},
			{fmt.Sprintf("ldxi 3; ld 0; %s 5; txa; reta", c.name), one("0 1 2 3 4 [] 3")},
		})
	}
	checkAll(t, []byHand{
		{"ld 0; neg; reta", one("0 1 2 [] (-w0)")},
		{"ldi 12; neg; reta", one("0 1 2 [] 4294967284")},
		{"ldxi 3; ld 0; neg; reta", one("0 1 2 3 [] (-w0)")},
		{"ldxi 3; ld 0; neg; txa; reta", one("0 1 2 3 4 [] 3")},
	})
}

// P14.1: what is reckoned by X: the same, of X's term, with a division's parting ahead of it.
func TestReckonedByX(t *testing.T) {
	for _, c := range []struct {
		name, sign string
		of12       uint32
	}{
		{"addx", "+", 17}, {"subx", "-", 7}, {"mulx", "*", 60}, {"divx", "/", 2}, {"orx", "|", 13},
		{"andx", "&", 4}, {"lshx", "<<", 384}, {"rshx", ">>", 0}, {"xorx", "^", 9},
	} {
		checkAll(t, []byHand{
			{fmt.Sprintf("ldxi 5; ld 0; %s; reta", c.name), one(fmt.Sprintf("0 1 2 3 [] (w0 %s 5)", c.sign))},
			{fmt.Sprintf("ldxi 5; ldi 12; %s; reta", c.name), one(fmt.Sprintf("0 1 2 3 [] %d", c.of12))},
			{fmt.Sprintf("ldxi 5; ld 0; %s; txa; reta", c.name), one("0 1 2 3 4 [] 5")},
		})
		want := []string{fmt.Sprintf("0 1 2 3 4 [] (w0 %s w1)", c.sign)}
		if c.name == "divx" {
			want = []string{"0 1 2 3 [w1 == 0] 0", "0 1 2 3 4 [not w1 == 0] (w0 / w1)"}
		}
		checkAll(t, []byHand{{fmt.Sprintf("ld 4; tax; ld 0; %s; reta", c.name), want}})
	}
}

// P14.1: what is reckoned is told by the rules of layer 12.
func TestSimplerTerms(t *testing.T) {
	checkAll(t, []byHand{
		{"ld 0; add 5; add 7; reta", one("0 1 2 3 [] (w0 + 12)")},
		{"ld 0; add 5; sub 5; reta", one("0 1 2 3 [] ((w0 + 5) - 5)")},
		{"ld 0; add 4294967295; add 1; reta", one("0 1 2 3 [] w0")},
		{"ld 0; and 60; and 240; reta", one("0 1 2 3 [] (w0 & 48)")},
		{"ld 0; xor 60; xor 60; reta", one("0 1 2 3 [] w0")},
		{"ld 0; mul 0; reta", one("0 1 2 [] 0")},
		{"ld 0; and 0; add 3; reta", one("0 1 2 3 [] 3")},
		{"ld 0; and 4294967295; reta", one("0 1 2 [] w0")},
		{"ld 0; or 4294967295; reta", one("0 1 2 [] 4294967295")},
		{"ld 0; add 0; sub 0; or 0; xor 0; lsh 0; rsh 0; mul 1; div 1; reta", one("0 1 2 3 4 5 6 7 8 9 [] w0")},
		{"ld 0; neg; neg; reta", one("0 1 2 3 [] w0")},
		{"ld 0; tax; subx; reta", one("0 1 2 3 [] 0")},
		{"ld 0; tax; xorx; reta", one("0 1 2 3 [] 0")},
		{"ld 0; tax; orx; andx; reta", one("0 1 2 3 4 [] w0")},
		{"ld 0; tax; addx; reta", one("0 1 2 3 [] (w0 + w0)")},
		{"ld 0; tax; ldi 5; addx; reta", one("0 1 2 3 4 [] (w0 + 5)")},
		{"ld 0; tax; ldi 5; subx; reta", one("0 1 2 3 4 [] (5 - w0)")},
		{"ld 0; ldxi 33; lshx; reta", one("0 1 2 3 [] (w0 << 1)")},
		{"ld 0; ldxi 32; rshx; reta", one("0 1 2 3 [] w0")},
		{"ldi 3; ldxi 33; lshx; reta", one("0 1 2 3 [] 6")},
		{"ldi 3; ldxlen; mulx; sub 193; reta", one("0 1 2 3 4 [] 4294967295")},
		{"ldxi 0; ld 0; andx; reta", one("0 1 2 3 [] 0")},
	})
}

// P14.1: a division by X ends where X is known to be 0, goes on where it is known not to be, and parts where it isn't known.
func TestDivisions(t *testing.T) {
	checkAll(t, []byHand{
		{"divx; ret 7", one("0 [] 0")},
		{"ld 0; divx; ret 7", one("0 1 [] 0")},
		{"ldxi 0; ldi 9; divx; reta", one("0 1 2 [] 0")},
		{"ld 0; tax; subx; tax; ld 4; divx; ret 7", one("0 1 2 3 4 5 [] 0")},
		{"ldxi 1; ld 0; divx; reta", one("0 1 2 3 [] w0")},
		{"ldxi 4294967295; ld 0; divx; reta", one("0 1 2 3 [] (w0 / 4294967295)")},
		{"ldxi 4; ldi 9; divx; reta", one("0 1 2 3 [] 2")},
		{"ldxlen; ld 0; divx; reta", one("0 1 2 3 [] (w0 / 64)")},
		{"ld 0; tax; divx; reta", []string{"0 1 2 [w0 == 0] 0", "0 1 2 3 [not w0 == 0] (w0 / w0)"}},
		{"ld 0; tax; ldi 0; divx; reta", []string{"0 1 2 3 [w0 == 0] 0", "0 1 2 3 4 [not w0 == 0] (0 / w0)"}},
		{"ld 4; and 240; tax; ldi 100; divx; reta", []string{
			"0 1 2 3 4 [not w1 & 240] 0",
			"0 1 2 3 4 5 [w1 & 240] (100 / (w1 & 240))"}},
		{"ld 4; tax; ld 0; divx; divx; reta", []string{
			"0 1 2 3 [w1 == 0] 0",
			"0 1 2 3 4 [not w1 == 0, w1 == 0] 0",
			"0 1 2 3 4 5 [not w1 == 0, not w1 == 0] ((w0 / w1) / w1)"}},
		// by a number there is no parting
		{"ld 0; div 3; div 4; reta", one("0 1 2 3 [] ((w0 / 3) / 4)")},
		{"ld 4; tax; ld 0; div 3; reta", one("0 1 2 3 4 [] (w0 / 3)")},
	})
}

// P14.1: Jifs whose atom is open, by a number and by X, with both sides in either order.
func TestJumps(t *testing.T) {
	for _, c := range []struct{ name, first, second string }{
		{"jeq", "w0 == 5", "not w0 == 5"},
		{"jgt", "w0 > 5", "not w0 > 5"},
		{"jge", "w0 > 4", "not w0 > 4"},
		{"jset", "w0 & 5", "not w0 & 5"},
	} {
		checkAll(t, []byHand{
			{fmt.Sprintf("ld 0; %s 5 0 1; ret 1; ret 2", c.name), []string{
				fmt.Sprintf("0 1 2 [%s] 1", c.first), fmt.Sprintf("0 1 3 [%s] 2", c.second)}},
			{fmt.Sprintf("ld 0; %s 5 1 0; ret 1; ret 2", c.name), []string{
				fmt.Sprintf("0 1 3 [%s] 2", c.first), fmt.Sprintf("0 1 2 [%s] 1", c.second)}},
			{fmt.Sprintf("ldxi 5; ld 0; %sx 0 1; ret 1; reta", c.name), []string{
				fmt.Sprintf("0 1 2 3 [%s] 1", c.first), fmt.Sprintf("0 1 2 4 [%s] w0", c.second)}},
			{fmt.Sprintf("ldxi 3; ld 0; %s 5 0 1; ret 1; reta", c.name), []string{
				fmt.Sprintf("0 1 2 3 [%s] 1", c.first), fmt.Sprintf("0 1 2 4 [%s] w0", c.second)}},
		})
	}
	for _, c := range []struct{ name, atom string }{{"jeqx", "w0 == w1"}, {"jgtx", "w0 > w1"}, {"jgex", "w0 >= w1"}, {"jsetx", "w0 & w1"}} {
		checkAll(t, []byHand{{fmt.Sprintf("ld 4; tax; ld 0; %s 3 1; ret 1; ret 2; ret 3; ret 4", c.name), []string{
			fmt.Sprintf("0 1 2 3 7 [%s] 4", c.atom), fmt.Sprintf("0 1 2 3 5 [not %s] 2", c.atom)}}})
	}
	checkAll(t, []byHand{
		// an atom that comes turned from its rules is turned for the second side
		{"ld 4; tax; ldi 5; jgtx 0 1; ret 1; ret 2", []string{"0 1 2 3 4 [not w1 > 4] 1", "0 1 2 3 5 [w1 > 4] 2"}},
		{"ld 0; jgt 0 0 1; ret 1; ret 2", []string{"0 1 2 [not w0 == 0] 1", "0 1 3 [w0 == 0] 2"}},
		{"ld 0; and 240; jeq 0 0 1; ret 1; ret 2", []string{"0 1 2 3 [not w0 & 240] 1", "0 1 2 4 [w0 & 240] 2"}},
		{"ld 0; jset 4294967295 0 1; reta; ret 2", []string{"0 1 2 [not w0 == 0] w0", "0 1 3 [w0 == 0] 2"}},
		{"ld 0; and 60; jset 240 0 1; ret 1; reta", []string{"0 1 2 3 [w0 & 48] 1", "0 1 2 4 [not w0 & 48] (w0 & 60)"}},
		{"ld 4; tax; ldi 5; jeqx 1 0; ret 1; ret 2", []string{"0 1 2 3 5 [w1 == 5] 2", "0 1 2 3 4 [not w1 == 5] 1"}},
	})
}

// P14.1: Jifs that go one way alone: both sides are one place, or it is known how it goes.
func TestJumpsOfOneWay(t *testing.T) {
	checkAll(t, []byHand{
		{"ld 0; jeq 5 0 0; ret 1", one("0 1 2 [] 1")},
		{"ld 0; jset 5 1 1; ret 1; ret 2", one("0 1 3 [] 2")},
		{"ldi 5; jeq 5 1 1; ret 1; ret 2", one("0 1 3 [] 2")},
		{"ldi 5; jgt 5 1 1; ret 1; ret 2", one("0 1 3 [] 2")},
		{"ld 4; tax; ld 0; jgtx 2 2; ret 1; ret 2; ret 3", one("0 1 2 3 6 [] 3")},
		{"ldi 7; jgt 6 0 1; ret 1; ret 2", one("0 1 2 [] 1")},
		{"ldi 6; jgt 6 0 1; ret 1; ret 2", one("0 1 3 [] 2")},
		{"ldi 6; jge 6 1 0; ret 1; ret 2", one("0 1 3 [] 2")},
		{"ldi 6; jset 9 1 0; ret 1; ret 2", one("0 1 2 [] 1")},
		{"ldi 6; ldxi 6; jeqx 0 1; ret 1; ret 2", one("0 1 2 3 [] 1")},
		{"ldi 6; ldxi 7; jgex 0 1; ret 1; ret 2", one("0 1 2 4 [] 2")},
		{"jeq 0 0 1; ret 1; ret 2", one("0 1 [] 1")},
		{"jeqx 0 1; ret 1; ret 2", one("0 1 [] 1")},
		{"jeq 1 0 1; ret 1; ret 2", one("0 2 [] 2")},
		{"ld 0; jge 0 0 1; ret 1; ret 2", one("0 1 2 [] 1")},
		{"ld 0; jgt 4294967295 0 1; ret 1; ret 2", one("0 1 3 [] 2")},
		{"ld 0; jset 0 0 1; ret 1; ret 2", one("0 1 3 [] 2")},
		{"ld 0; and 60; jeq 64 0 1; ret 1; ret 2", one("0 1 2 4 [] 2")},
		{"ld 0; tax; jeqx 0 1; ret 1; ret 2", one("0 1 2 3 [] 1")},
		{"ld 0; tax; jgex 1 0; ret 1; ret 2", one("0 1 2 4 [] 2")},
		{"ld 0; tax; jgtx 0 1; ret 1; ret 2", one("0 1 2 4 [] 2")},
		{"ja 0; ret 1", one("0 1 [] 1")},
		{"ja 1; ret 1; ret 2", one("0 2 [] 2")},
		{"ja 2; ret 1; ret 2; ja 0; ret 3", one("0 3 4 [] 3")},
	})
}

// P14.1: the paths' order, with their atoms in the order in which they parted. What can't be together is told all the same.
func TestOrder(t *testing.T) {
	checkAll(t, []byHand{
		{"ld 0; jeq 5 0 1; ja 0; jeq 5 0 1; ret 1; ret 2", []string{
			"0 1 2 3 4 [w0 == 5, w0 == 5] 1",
			"0 1 2 3 5 [w0 == 5, not w0 == 5] 2",
			"0 1 3 4 [not w0 == 5, w0 == 5] 1",
			"0 1 3 5 [not w0 == 5, not w0 == 5] 2"}},
		{"ld 0; jgt 9 2 0; jeq 3 2 0; ret 1; jeq 12 0 1; ret 2; reta", []string{
			"0 1 4 5 [w0 > 9, w0 == 12] 2",
			"0 1 4 6 [w0 > 9, not w0 == 12] w0",
			"0 1 2 5 [not w0 > 9, w0 == 3] 2",
			"0 1 2 3 [not w0 > 9, not w0 == 3] 1"}},
		{"ld 4; jeq 7 1 0; ret 0; ld 0; jeq 59 2 0; jset 2 0 2; jgt 100 0 1; ret 1; ret 2", []string{
			"0 1 3 4 7 [w1 == 7, w0 == 59] 1",
			"0 1 3 4 5 6 7 [w1 == 7, not w0 == 59, w0 & 2, w0 > 100] 1",
			"0 1 3 4 5 6 8 [w1 == 7, not w0 == 59, w0 & 2, not w0 > 100] 2",
			"0 1 3 4 5 8 [w1 == 7, not w0 == 59, not w0 & 2] 2",
			"0 1 2 [not w1 == 7] 0"}},
		{"ld 4; tax; ld 0; jgt 9 0 1; divx; st 0; divx; add 1; reta", []string{
			"0 1 2 3 4 [w0 > 9, w1 == 0] 0",
			"0 1 2 3 4 5 6 [w0 > 9, not w1 == 0, w1 == 0] 0",
			"0 1 2 3 4 5 6 7 8 [w0 > 9, not w1 == 0, not w1 == 0] (((w0 / w1) / w1) + 1)",
			"0 1 2 3 5 6 [not w0 > 9, w1 == 0] 0",
			"0 1 2 3 5 6 7 8 [not w0 > 9, not w1 == 0] ((w0 / w1) + 1)"}},
		// what is known on one side of a parting only
		{"ld 0; jeq 1 0 1; ldi 3; jeq 3 0 1; ret 1; ret 2", []string{
			"0 1 2 3 4 [w0 == 1] 1",
			"0 1 3 4 [not w0 == 1, w0 == 3] 1",
			"0 1 3 5 [not w0 == 1, not w0 == 3] 2"}},
	})
}

// slowWay is a filter done with terms along one way, one instruction after the other. Where it parts it goes as the choices say, and as the first one does, where they say nothing more; it tells the choices that it went by.
type slowWay struct {
	t       *testing.T
	pool    *term.Pool
	at      int
	a, x    int
	m       map[uint32]int
	path    Path
	ended   bool
	choices []bool
	made    int
}

func (w *slowWay) number(k uint32) int {
	at, e := simp.Number(w.pool, k)
	if e != api.OK {
		w.t.Fatal(e)
	}
	return at
}

func (w *slowWay) end(action int) { w.path.Action, w.ended = action, true }

// asks tells which side to go, and keeps the atom, if it is open.
func (w *slowWay) asks(op, a, b int) bool {
	x, known, e := atom.Make(w.pool, op, a, b, false)
	if e != api.OK {
		w.t.Fatal(e)
	}
	if known != atom.Open {
		return known == atom.Always
	}
	if w.made == len(w.choices) {
		w.choices = append(w.choices, true)
	}
	so := w.choices[w.made]
	w.made++
	x.Not = x.Not == so
	w.path.Atoms = append(w.path.Atoms, x)
	return so
}

// do does one instruction, told by its code.
func (w *slowWay) do(i api.Instr) {
	w.path.Places = append(w.path.Places, w.at)
	w.at++
	other := func() int {
		if i.Code&8 != 0 {
			return w.x
		}
		return w.number(i.K)
	}
	switch i.Code {
	case 0x06:
		w.end(w.number(i.K))
	case 0x16:
		w.end(w.a)
	case 0x05:
		w.at += int(i.K)
	case 0x15, 0x25, 0x35, 0x45, 0x1d, 0x2d, 0x3d, 0x4d:
		if i.Jt == i.Jf || w.asks(int(i.Code&0xf0), w.a, other()) {
			w.at += int(i.Jt)
		} else {
			w.at += int(i.Jf)
		}
	case 0x20:
		w.a, _ = simp.Word(w.pool, int(i.K)/4)
	case 0x80:
		w.a = w.number(64)
	case 0x00:
		w.a = w.number(i.K)
	case 0x60:
		w.a = w.m[i.K]
	case 0x01:
		w.x = w.number(i.K)
	case 0x61:
		w.x = w.m[i.K]
	case 0x81:
		w.x = w.number(64)
	case 0x02:
		w.m[i.K] = w.a
	case 0x03:
		w.m[i.K] = w.x
	case 0x07:
		w.x = w.a
	case 0x87:
		w.a = w.x
	default:
		if i.Code == 0x3c && w.asks(0x10, w.x, w.number(0)) {
			w.end(w.number(0))
			return
		}
		w.a, _ = simp.Make(w.pool, int(i.Code&0xf0), w.a, other())
	}
}

// along is one way through a filter, and the choices that it went by.
func along(t *testing.T, pool *term.Pool, list []api.Instr, choices []bool) (Path, []bool) {
	w := &slowWay{t: t, pool: pool, m: map[uint32]int{}, choices: slices.Clone(choices)}
	w.a, w.x = w.number(0), w.number(0)
	for !w.ended {
		w.do(list[w.at])
	}
	return w.path, w.choices
}

// slow is all ways through a filter, each from its beginning on: the next one makes the last choice that was the first side anew.
func slow(t *testing.T, list []api.Instr) (*term.Pool, []Path) {
	pool := term.New()
	var found []Path
	var choices []bool
	for {
		var p Path
		p, choices = along(t, pool, list, choices)
		found = append(found, p)
		last := len(choices) - 1
		for last >= 0 && !choices[last] {
			last--
		}
		if last < 0 {
			return pool, found
		}
		choices = append(choices[:last], false)
	}
}

// laid is where the nodes of a row stand in a pool. It has all of them, but for numbers beside.
func laid(t *testing.T, pool *term.Pool, row []api.Node) []int {
	to := make([]int, len(row))
	for at, n := range row {
		if n.Op >= 0x100 {
			n.A = to[n.A]
		}
		if n.Op >= 0x100 && n.Op != 0x180 {
			n.B = to[n.B]
		}
		place, e := pool.Put(n)
		if e != api.OK {
			t.Fatal(n, e)
		}
		to[at] = place
	}
	return to
}

// checkSlow holds a walk against the slow one, all terms put into one pool.
func checkSlow(t *testing.T, list []api.Instr, row []api.Node, found []Path) {
	t.Helper()
	pool, want := slow(t, list)
	to := laid(t, pool, row)
	var is []Path
	for _, p := range found {
		p = Path{p.Places, slices.Clone(p.Atoms), to[p.Action]}
		for j, a := range p.Atoms {
			p.Atoms[j].A, p.Atoms[j].B = to[a.A], to[a.B]
		}
		is = append(is, p)
	}
	if !alike(nil, nil, is, want) {
		t.Fatalf("%s: %d paths, and %d slowly, or others", program(list), len(found), len(want))
	}
}

// checkRecord is P14.2 for one record: one path is so, and it is the machine's.
func checkRecord(t *testing.T, list []api.Instr, row []api.Node, found []Path, r api.Record) {
	t.Helper()
	var so []Path
	for _, p := range found {
		if !slices.ContainsFunc(p.Atoms, func(a api.Atom) bool {
			is, e := atom.Holds(row, a, r)
			return !is || e != api.OK
		}) {
			so = append(so, p)
		}
	}
	if len(so) != 1 {
		t.Fatalf("%s: %d paths are so of %v", program(list), len(so), r)
	}
	places, e := machine.Trace(list, r)
	if e != api.OK || !slices.Equal(so[0].Places, places) {
		t.Fatalf("%s: of %v the path %v is so, and the machine does %v", program(list), r, so[0].Places, places)
	}
	answer, _ := machine.Run(list, r)
	if value, e := term.Value(row, so[0].Action, r); value != answer || e != api.OK {
		t.Fatalf("%s: of %v the path answers %d, and the machine %d", program(list), r, value, answer)
	}
}

// checkEnough is P14.3.
func checkEnough(t *testing.T, list []api.Instr, steps int) {
	t.Helper()
	work, e := paths.Work(list)
	if e != api.OK || uint64(steps) > work {
		t.Fatalf("%s: %d steps of %d", program(list), steps, work)
	}
	enough, _ := paths.Enough(list)
	if enough > most {
		return
	}
	if n, e := Steps(list, int(enough)); n != steps || e != api.OK {
		t.Fatalf("%s: %d steps of %d, with %d: %d", program(list), n, steps, enough, e)
	}
	if _, _, e := Walk(list, int(enough)); e != api.OK {
		t.Fatalf("%s: %d with %d", program(list), e, enough)
	}
}

// draw is numbers that look like any, the same ones at each run.
type draw uint64

func (d *draw) below(n int) int {
	*d = *d*6364136223846793005 + 1442695040888963407
	return int(uint64(*d)>>33) % n
}

// corners are the numbers that drawn filters have, and what the words of drawn records are near to.
var corners = []uint32{0, 1, 2, 3, 5, 6, 9, 0x30, 0x3c, 0xf0, 64, half, half - 1, top, top - 1}

func (d *draw) corner() uint32 { return corners[d.below(len(corners))] }

func (d *draw) record() (r api.Record) {
	for w := range r {
		r[w] = d.corner() + uint32(d.below(3)) - 1
	}
	return r
}

// usual are the codes of drawn filters, those of which there are to be more more than once; there are all but returns.
var usual = []uint16{
	0x20, 0x20, 0x20, 0x20, 0x80, 0x00, 0x60, 0x60, 0x01, 0x61, 0x81, 0x02, 0x02, 0x03, 0x07, 0x07, 0x07, 0x87,
	0x04, 0x14, 0x24, 0x34, 0x44, 0x54, 0x54, 0x64, 0x74, 0xa4, 0x84, 0x0c, 0x1c, 0x2c, 0x3c, 0x3c, 0x3c, 0x4c, 0x5c, 0x6c, 0x7c, 0xac,
	0x05, 0x15, 0x15, 0x25, 0x25, 0x35, 0x45, 0x45, 0x1d, 0x2d, 0x3d, 0x4d,
}

// any is one instruction with so many others behind it, and a return.
func (d *draw) any(left int) api.Instr {
	if d.below(24) == 0 {
		return api.Instr{Code: []uint16{0x06, 0x16}[d.below(2)], K: d.corner()}
	}
	i := api.Instr{Code: usual[d.below(len(usual))], K: d.corner(), Jt: uint8(d.below(min(left+1, 4))), Jf: uint8(d.below(min(left+1, 4)))}
	switch i.Code {
	case 0x20:
		i.K = uint32(4 * d.below(3))
	case 0x60, 0x61, 0x02, 0x03:
		i.K = uint32(d.below(3))
	case 0x34:
		i.K |= 1
	case 0x64, 0x74:
		i.K %= 32
	case 0x05:
		i.K = uint32(d.below(min(left+1, 4)))
	}
	return i
}

// filter is n instructions and a return, drawn till it is a filter that has no more than so many ways.
func (d *draw) filter(n int, ways uint64) []api.Instr {
	for {
		list := []api.Instr{{Code: 0x20}, {Code: 0x02}}
		for left := n - 1; left >= 0; left-- {
			list = append(list, d.any(left))
		}
		list = append(list, api.Instr{Code: []uint16{0x06, 0x16}[d.below(2)], K: d.corner()})
		if count, e := paths.Count(list); e == api.OK && count <= ways {
			return list
		}
	}
}

// checkOne holds all promises of one filter.
func checkOne(t *testing.T, list []api.Instr, records []api.Record) []Path {
	t.Helper()
	row, found := checkWalk(t, list)
	for _, r := range records {
		checkRecord(t, list, row, found, r)
	}
	checkEnough(t, list, beginnings(found))
	checkSlow(t, list, row, found)
	if row, found, e := Walk(scribbled(list), most); e == api.OK {
		checkSlow(t, list, row, found)
	} else {
		t.Fatalf("%s, scribbled: %d", program(list), e)
	}
	return found
}

// P14.1 to P14.3: all filters of word 0 and up to four instructions of these.
func TestAllShort(t *testing.T) {
	first := read(t, "ld 0")
	all := read(t, "ldi 5; ldxi 5; tax; txa; st 0; ldxm 0; add 5; subx; divx; jeq 5 0 1; jgt 5 1 0; jeqx 0 1; jset 5 0 0; ja 1; ret 1; reta")
	records := []api.Record{{}, {4}, {5}, {6}, {top}}
	filters, parted := 0, 0
	var grow func(list []api.Instr)
	grow = func(list []api.Instr) {
		if verify.Right(list) {
			filters++
			if len(checkOne(t, list, records)) > 1 {
				parted++
			}
		}
		if len(list) == 5 {
			return
		}
		for _, i := range all {
			grow(append(slices.Clone(list), i))
		}
	}
	grow(first)
	if filters < 5000 || parted < 1000 {
		t.Errorf("%d filters, %d of them parted", filters, parted)
	}
}

// P14.1 to P14.3: many filters and records, drawn.
func TestDrawn(t *testing.T) {
	d := draw(14)
	several, long, divided := 0, 0, 0
	for range 12000 {
		list := d.filter(1+d.below(30), 600)
		var records []api.Record
		for range 6 {
			records = append(records, d.record())
		}
		found := checkOne(t, list, records)
		if len(found) >= 8 {
			several++
		}
		for _, p := range found {
			if len(p.Atoms) >= 5 {
				long++
			}
			if last := p.Places[len(p.Places)-1]; list[last].Code == 0x3c && len(p.Atoms) > 0 {
				divided++
			}
		}
	}
	if several < 400 || long < 1000 || divided < 1000 {
		t.Errorf("%d filters with 8 paths and more, %d paths with 5 atoms and more, %d that end by a division", several, long, divided)
	}
}

// ladder is so many instructions that are passed, rungs that have two sides each, which come together again, and a return: more + 2^(rungs+1) * 3/2 - 1 steps.
func ladder(more, rungs int) []api.Instr {
	list := append([]api.Instr{{Code: 0x20}}, slices.Repeat([]api.Instr{{Code: 0x05}}, more)...)
	for k := range uint32(rungs) {
		list = append(list, api.Instr{Code: 0x15, Jf: 1, K: k}, api.Instr{Code: 0x05})
	}
	return append(list, api.Instr{Code: 0x06, K: 7})
}

// P14.1 and P14.3: walks of just as many steps as a budget has at most, of one more, and of far too many.
func TestMostSteps(t *testing.T) {
	list := ladder(2049, 11)
	row, found := checkWalk(t, list)
	if n := beginnings(found); n != most || len(found) != 2048 {
		t.Fatalf("%d steps, %d paths", n, len(found))
	}
	checkEnough(t, list, most)
	for i, p := range found {
		if len(p.Atoms) != 11 || row[p.Action].K != 7 {
			t.Fatal(len(p.Atoms), row[p.Action])
		}
		// the order is that of counting, the first side for 0
		for k, a := range p.Atoms {
			if a.Op != 0x10 || row[a.B].K != uint32(k) || a.Not != (i>>(10-k)&1 == 1) {
				t.Fatal(i, k, a)
			}
		}
	}
	for _, list := range [][]api.Instr{ladder(2050, 11), ladder(0, 12), ladder(0, 40), ladder(0, 2000)} {
		checkRefused(t, list, most, api.ErrBudget)
		checkRefused(t, list, most-1, api.ErrBudget)
	}
}

// P14.1: the longest filters: straight on, parted at each instruction, with trees that double at each.
func TestLongest(t *testing.T) {
	straight := append(append(read(t, "ld 0"), slices.Repeat(read(t, "add 3"), longest-2)...), read(t, "reta")...)
	row, found := checkWalk(t, straight)
	if len(found) != 1 || len(found[0].Places) != longest || written(row, found[0].Action) != "(w0 + 12282)" {
		t.Error(len(found))
	}
	divided := append(append(read(t, "ld 0; tax"), slices.Repeat(read(t, "divx"), longest-3)...), read(t, "reta")...)
	if n, e := Steps(divided, most); n != longest || e != api.OK {
		t.Error(n, e)
	}
	checkRefused(t, divided, longest-1, api.ErrBudget)
	divided = append(divided[:1002:1002], read(t, "reta")...)
	row, found, e := Walk(divided, 1003)
	if e != api.OK || len(found) != 1001 {
		t.Fatal(len(found), e)
	}
	checkRow(t, row, found)
	for i, p := range found[:1000] {
		if len(p.Places) != i+3 || len(p.Atoms) != i+1 || p.Atoms[i].Not || row[p.Action] != (api.Node{Op: 1}) {
			t.Fatal(i, len(p.Places), len(p.Atoms))
		}
	}
	doubled := append(slices.Repeat(read(t, "addx; tax"), longest/2-2), read(t, "addx; reta")...)
	doubled = append(read(t, "ld 0; tax"), doubled...)
	row, found = checkWalk(t, doubled)
	if size, e := term.Size(row, found[0].Action); len(found) != 1 || size != 1<<50 || e != api.OK {
		t.Error(len(found), size, e)
	}
	checkRecord(t, doubled, row, found, api.Record{5})
}

// P14.1: a walk with as many nodes as steps can come by has room for all of them.
func TestMostNodes(t *testing.T) {
	list := read(t, "ld 0; jeq 1 0 1")
	var both, one uint32
	for k := uint32(1); len(list) < longest-1; k++ {
		list = append(list, api.Instr{Code: 0xa4, K: k * 0x9e3779b1})
		both ^= k * 0x9e3779b1
	}
	one = both ^ 0x9e3779b1
	list = append(list, api.Instr{Code: 0x16})
	row, found := checkWalk(t, list)
	if len(found) != 2 || beginnings(found) != 2*longest-3 || len(row) < 20000 {
		t.Fatal(len(found), len(row))
	}
	want := []string{fmt.Sprintf("(w0 ^ %d)", both), fmt.Sprintf("(w0 ^ %d)", one)}
	for i, p := range found {
		if is := written(row, p.Action); is != want[i] {
			t.Errorf("%s, not %s", is, want[i])
		}
	}
}

// filled has another value in each place of a list that there is room for.
func filled[T any](list []T, with T) {
	for i := range list[:cap(list)] {
		list[:cap(list)][i] = with
	}
}

// P14.3, and rules 3, 4 and 6: the filter and its spare room stay as they are, no two lists share memory, and a second call tells the same.
func TestNothingShared(t *testing.T) {
	list := read(t, "ld 4; tax; ld 0; jgt 9 0 1; divx; st 0; divx; add 1; reta")
	room := append(slices.Clone(list), slices.Repeat(read(t, "div 7"), 9)...)
	was := slices.Clone(room)
	list = room[:len(list)]
	row, found := checkWalk(t, list)
	var kept []Path
	for _, p := range found {
		kept = append(kept, Path{slices.Clone(p.Places), slices.Clone(p.Atoms), p.Action})
	}
	nodes := slices.Clone(row)
	for i, p := range found {
		if !alike(row, nodes, found[i:], kept[i:]) {
			t.Fatal("two lists of one answer share memory")
		}
		filled(p.Places, -1)
		filled(p.Atoms, api.Atom{Op: -1})
	}
	if !slices.Equal(row, nodes) {
		t.Fatal("the row shares memory")
	}
	filled(row, api.Node{Op: -1})
	filled(found, Path{Action: -1})
	row, found = checkWalk(t, list)
	if !alike(row, nodes, found, kept) {
		t.Error("a second call tells something else")
	}
	if !slices.Equal(room, was) {
		t.Error("the filter was changed")
	}
}
