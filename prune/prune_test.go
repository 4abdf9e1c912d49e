package prune

import (
	"math"
	"slices"
	"testing"

	"tamis/api"
	"tamis/asm"
	"tamis/graph"
	"tamis/machine"
	"tamis/verify"
)

const top = math.MaxUint32

// The instructions that the tests are made of, written out by hand.
var (
	ret = api.Instr{Code: 0x06, K: 7}
	tax = api.Instr{Code: 0x07}
)

var jifs = []uint16{0x15, 0x25, 0x35, 0x45, 0x1d, 0x2d, 0x3d, 0x4d}

func of(c uint16, k uint32) api.Instr       { return api.Instr{Code: c, K: k} }
func ja(k uint32) api.Instr                 { return api.Instr{Code: 0x05, K: k} }
func jif(jt, jf uint8) api.Instr            { return api.Instr{Code: 0x15, Jt: jt, Jf: jf, K: 5} }
func program(list ...api.Instr) []api.Instr { return list }
func many(i api.Instr, n int) []api.Instr   { return slices.Repeat([]api.Instr{i}, n) }

// numbered is n instructions, no two of them the same.
func numbered(n int) []api.Instr {
	out := make([]api.Instr, n)
	for at := range out {
		out[at] = of(0x00, uint32(at))
	}
	return out
}

// read is the filter of a text.
func read(t *testing.T, text string) []api.Instr {
	t.Helper()
	list, at, e := asm.Read(text)
	if e != api.OK || !verify.Right(list) {
		t.Fatalf("%q is no filter: %d at %d", text, e, at)
	}
	return list
}

// marks has a 1 for each place that is told.
func marks(told []bool) string {
	out := ""
	for _, is := range told {
		if is {
			out += "1"
		} else {
			out += "0"
		}
	}
	return out
}

// draw is numbers that look like any, the same ones at each run.
type draw uint64

func (d *draw) below(n int) int {
	*d = *d*6364136223846793005 + 1442695040888963407
	return int(uint64(*d) >> 33 % uint64(n))
}

// checkSame holds P9.2 of a filter and what comes of it.
func checkSame(t *testing.T, list, got []api.Instr, d *draw, records int) {
	t.Helper()
	if !verify.Right(got) || len(got) > len(list) {
		t.Fatalf("of %d instructions %d come; a filter: %t", len(list), len(got), verify.Right(got))
	}
	if again, e := Prune(got); e != api.OK || !slices.Equal(again, got) {
		t.Fatalf("pruned once more: %d instructions, %d, not the same %d", len(again), e, len(got))
	}
	if slices.Contains(graph.Reached(got), false) {
		t.Fatalf("no way comes to some of %+v", got)
	}
	for range records {
		var r api.Record
		for w := range r {
			r[w] = uint32(d.below(8))
		}
		want, _ := machine.Run(list, r)
		if a, e := machine.Run(got, r); a != want || e != api.OK {
			t.Fatalf("to %v: %d %d, not %d", r, a, e, want)
		}
	}
}

// checkPrune holds what comes of a filter against what was found otherwise, holds P9.2 of it, and that the filter stays as it is.
func checkPrune(t *testing.T, list, want []api.Instr) {
	t.Helper()
	was := slices.Clone(list)
	got, e := Prune(list)
	if e != api.OK || !slices.Equal(got, want) {
		t.Fatalf("Prune of %d instructions: %d\n%+v, not\n%+v", len(list), e, got, want)
	}
	if !slices.Equal(list, was) {
		t.Fatal("the list was changed")
	}
	d := seed(list)
	checkSame(t, list, got, &d, 10)
}

// seed begins the numbers that are drawn for a filter: other ones for another filter.
func seed(list []api.Instr) draw {
	out := draw(len(list))
	for _, i := range list {
		out = out*31 + draw(i.K) + draw(i.Jt)<<8 + draw(i.Jf)<<16 + draw(i.Code)<<24
	}
	return out
}

// noFilters is a program for each reason for which one is no filter; in most of them no way comes to what is wrong.
func noFilters() [][]api.Instr {
	return [][]api.Instr{
		nil, {},
		many(ret, 4097), many(ret, 1<<16),
		program(tax), program(ret, tax), program(ja(0), ret, tax), program(ret, jif(0, 0)), program(ja(0), ja(0)),
		program(of(0x60, 0), ret), program(of(0x61, 15), ret), program(jif(0, 1), of(0x02, 0), of(0x60, 0), ret), program(ja(1), of(0x03, 4), of(0x61, 4), ret),
		program(ja(0), ret, of(0x94, 0), ret), program(ja(0), ret, of(0x28, 0), ret), program(ja(0), ret, of(0x105, 0), ret),
		program(ret, of(0x20, 3), ret), program(ret, of(0x20, 64), ret),
		program(ret, of(0x02, 16), ret), program(ret, of(0x03, top), ret), program(ret, of(0x60, 16), ret), program(ret, of(0x61, 16), ret),
		program(ret, of(0x34, 0), ret),
		program(ret, of(0x64, 32), ret), program(ret, of(0x74, top), ret),
		program(ret, ja(1), ret), program(ret, ja(top), ret), program(ret, ja(top-1), ret),
		program(ret, jif(1, 0), ret), program(ret, jif(0, 1), ret), program(ret, jif(255, 255), ret),
	}
}

// P9.1: of what is no filter comes ErrArg and none, nothing is needed, and each place is its own end, where a Ja is and where there is no place.
func TestNoFilter(t *testing.T) {
	for n, bad := range noFilters() {
		for _, list := range [][]api.Instr{bad, slices.Concat(program(ja(0)), bad)} {
			was := slices.Clone(list)
			if verify.Right(list) {
				t.Fatalf("%d is a filter", n)
			}
			if got, e := Prune(list); got != nil || e != api.ErrArg {
				t.Errorf("%d: Prune %v %d", n, got, e)
			}
			if got := Needed(list); got != nil {
				t.Errorf("%d: Needed %v", n, got)
			}
			for _, at := range []int{math.MinInt, -4096, -1, 0, 1, 2, 3, 4, 5, 4096, 4097, math.MaxInt} {
				if got := End(list, at); got != at {
					t.Errorf("%d: End at %d: %d", n, at, got)
				}
			}
			if !slices.Equal(list, was) {
				t.Errorf("%d was changed", n)
			}
		}
	}
}

func checkEnds(t *testing.T, list []api.Instr, want ...int) {
	t.Helper()
	var got []int
	for at := range list {
		got = append(got, End(list, at))
	}
	if !slices.Equal(got, want) {
		t.Errorf("ends of %+v: %v, not %v", list, got, want)
	}
}

// P9.1: the end of a place is the place itself, unless a Ja is there; else it is found from Ja to Ja. A way needn't come there.
func TestEnd(t *testing.T) {
	checkEnds(t, program(ret), 0)
	checkEnds(t, read(t, "ld 0\njeq 5 0 1\nret 1\nret 2\n"), 0, 1, 2, 3)
	checkEnds(t, read(t, "ja 1\nret 1\nret 2\n"), 2, 1, 2)
	checkEnds(t, read(t, "ja 0\nret 1\n"), 1, 1)
	checkEnds(t, read(t, "ja 0\nja 0\nja 0\nret 1\n"), 3, 3, 3, 3)
	checkEnds(t, read(t, "ja 1\nldi 1\nja 2\nldi 2\nja 2\nja 0\njeq 1 0 0\nja 0\nret 0\n"), 6, 1, 6, 3, 8, 6, 6, 8, 8)
	checkEnds(t, read(t, "ret 0\nja 2\ntax\nja 1\nja 0\nja 0\nret 0\n"), 0, 6, 2, 6, 6, 6, 6)
	// what a Jif can leave out is no bound here, nor is a Jif looked at
	list := slices.Concat(program(ja(300), jif(0, 0)), numbered(299), program(ja(3000)), numbered(3000), program(ret))
	for at, want := range map[int]int{0: 3302, 1: 1, 2: 2, 301: 3302, 302: 302, 3301: 3301, 3302: 3302} {
		if got := End(list, at); got != want {
			t.Errorf("End at %d: %d, not %d", at, got, want)
		}
	}
	// a Ja's Jt and Jf are nothing to it
	checkEnds(t, program(api.Instr{Code: 0x05, Jt: 2, Jf: 1, K: 0}, tax, ret), 1, 1, 2)
	checkEnds(t, slices.Concat(many(ja(0), 4095), program(ret)), slices.Repeat([]int{4095}, 4096)...)
}

// P9.1: of a filter too, End of what is no place is that itself.
func TestEndRange(t *testing.T) {
	for _, list := range [][]api.Instr{program(ret), program(ja(0), ret), program(ja(1), ja(0), ja(0), ret), slices.Concat(many(ja(0), 4095), program(ret)), program(ja(0), ret, ja(0), ret)[:2]} {
		n := len(list)
		for _, at := range []int{-1, -2, -n, -n - 1, n, n + 1, 2 * n, n + 4096, math.MinInt, math.MaxInt, math.MinInt32, math.MaxInt32} {
			if got := End(list, at); got != at {
				t.Errorf("End at %d of %d: %d", at, n, got)
			}
		}
	}
}

// P9.1: what the first round leaves, found by hand.
func TestNeeded(t *testing.T) {
	for text, want := range map[string]string{
		"ret 1\n":                                                             "1",
		"ld 0\njeq 5 0 1\nret 1\nret 2\n":                                     "1111",
		"ret 1\nret 2\n":                                                      "10",
		"ldi 1\nret 1\nldi 2\nja 0\nret 2\n":                                  "11000",
		"ldi 1\njeq 1 1 1\nldi 2\nreta\n":                                     "1101",
		"ja 1\nldm 3\nret 1\n":                                                "001",
		"ja 0\nret 1\n":                                                       "01",
		"ja 1\nret 1\nret 2\n":                                                "001",
		"ldi 1\nja 1\nldi 2\nreta\n":                                          "1001",
		"ldi 1\nja 0\nreta\n":                                                 "101",
		"jeq 1 0 2\nldi 1\nja 1\nldi 2\nreta\n":                               "11111",
		"jeq 1 0 1\nja 1\nret 1\nret 2\n":                                     "1011",
		"jeq 1 1 0\nja 1\nret 1\nret 2\n":                                     "1011",
		"ldi 1\nja 0\nja 0\nreta\n":                                           "1001",
		"ldi 1\nja 2\nja 1\nja 0\nreta\n":                                     "10001",
		"jeq 1 0 2\ntax\nja 1\nldi 2\nreta\n":                                 "11111",
		"jeq 1 0 3\ntax\nja 2\nldi 9\nldi 2\nreta\n":                          "111011",
		"jeq 1 0 3\ntax\nja 1\nldi 9\nja 0\nreta\n":                           "110001",
		"jeq 1 0 1\nldi 1\nja 2\nret 1\nret 2\nreta\n":                        "110001",
		"jeq 1 0 2\nldi 1\nja 4\nldi 2\nja 2\nret 1\nja 0\nreta\n":            "11110001",
		"jeq 1 0 3\nldi 1\njeq 2 0 0\nja 4\nldi 2\nja 2\nret 1\nja 0\nreta\n": "111010001",
	} {
		if got := marks(Needed(read(t, text))); got != want {
			t.Errorf("%q: %s, not %s", text, got, want)
		}
	}
}

// P9.1: one Ja stands ahead of another, and nothing is needed between the one and its target but Jas of which the same is so: then it isn't needed either. The ladder of Jifs makes that a way comes to each of them, as their common end is too far.
func TestNeededJaAheadOfJa(t *testing.T) {
	ladder := program(jif(0, 1), jif(1, 2), jif(2, 1))
	for _, c := range []struct {
		jas  []api.Instr
		want string
	}{
		{program(ja(300), ja(299), ja(298)), "111000"},
		{program(ja(300), ret, ja(298)), "111110"},
		{program(ja(300), ja(299), ret), "111111"},
		{program(ja(0), ja(299), ja(298)), "111000"},
	} {
		list := slices.Concat(ladder, c.jas, numbered(298), program(ret))
		want := c.want + marks(make([]bool, 298)) + "1"
		if got := marks(Needed(list)); got != want {
			t.Errorf("%+v: %s, not %s", c.jas, got, want)
		}
	}
}

// P9.1: what comes of filters, found by hand.
func TestPrune(t *testing.T) {
	for text, want := range map[string]string{
		// the chapter's example
		"ja 1\nret 1\nret 2\n": "ret 2\n",
		// nothing to do
		"ret 1\n":                         "ret 1\n",
		"ld 0\njeq 5 0 1\nret 1\nret 2\n": "ld 0\njeq 5 0 1\nret 1\nret 2\n",
		"jeq 1 0 0\nret 1\n":              "jeq 1 0 0\nret 1\n",
		"jgt 1 0 1\nldi 1\nreta\n":        "jgt 1 0 1\nldi 1\nreta\n",
		// code that no way comes to: behind, between, in front, in front and behind
		"ret 1\nret 2\n": "ret 1\n",
		"ldi 3\nreta\nldi 4\njeq 1 0 1\ntax\nreta\n":    "ldi 3\nreta\n",
		"ld 0\njeq 1 1 1\nldi 3\nret 2\n":               "ld 0\njeq 1 0 0\nret 2\n",
		"ld 0\njeq 1 1 3\nldi 3\nret 2\nldi 4\nret 3\n": "ld 0\njeq 1 0 1\nret 2\nret 3\n",
		"ld 0\njge 1 3 1\nldi 3\nret 2\nldi 4\nret 3\n": "ld 0\njge 1 1 0\nret 2\nret 3\n",
		"ja 2\ntax\nret 9\nld 4\nreta\n":                "ld 4\nreta\n",
		"ja 1\nret 9\nld 4\nreta\nret 8\n":              "ld 4\nreta\n",
		// code that no way comes to, and that jumps to what is reached, or loads what isn't written
		"ret 1\nja 1\njset 1 1 0\nldm 5\nret 0\n": "ret 1\n",
		"ja 2\njeq 1 1 0\nja 0\nldi 1\nreta\n":    "ldi 1\nreta\n",
		"ja 1\nldxm 3\ntxa\nreta\n":               "txa\nreta\n",
		// a Ja to the very next place: in front, between, ahead of the return, several
		"ja 0\nret 1\n":                                "ret 1\n",
		"ldi 1\nja 0\nldi 2\nja 0\nreta\n":             "ldi 1\nldi 2\nreta\n",
		"ja 0\nja 0\nldi 1\nja 0\nja 0\nja 0\nret 3\n": "ldi 1\nret 3\n",
		"jeq 1 1 0\nja 0\nja 0\nret 1\n":               "jeq 1 0 0\nret 1\n",
		// Ja to Ja
		"ja 2\nret 1\nja 2\nja 0\nja 1\nret 2\nret 3\n":           "ret 3\n",
		"ld 0\njeq 1 0 2\ntax\nja 2\nldi 1\nret 1\nja 0\nret 2\n": "ld 0\njeq 1 0 2\ntax\nja 2\nldi 1\nret 1\nret 2\n",
		// each side of a Jif to a Ja
		"ld 0\njeq 1 0 1\nja 1\nret 1\nret 2\n":       "ld 0\njeq 1 1 0\nret 1\nret 2\n",
		"ld 0\njeq 1 1 0\nja 1\nret 1\nret 2\n":       "ld 0\njeq 1 0 1\nret 1\nret 2\n",
		"ld 0\njeq 1 0 1\nja 1\nja 1\nret 1\nret 2\n": "ld 0\njeq 1 0 1\nret 1\nret 2\n",
		"ld 0\njeq 1 1 0\nja 1\nja 1\nret 1\nret 2\n": "ld 0\njeq 1 1 0\nret 1\nret 2\n",
		"ld 0\njeq 1 0 0\nja 1\nret 1\nret 2\n":       "ld 0\njeq 1 0 0\nret 2\n",
		// a Ja that is needed stays, and goes to where its target stands then
		"jeq 1 0 3\nldi 1\nja 3\nret 9\nldi 2\nret 8\nret 3\n":    "jeq 1 0 2\nldi 1\nja 2\nldi 2\nret 8\nret 3\n",
		"jeq 1 0 3\nldi 1\nja 3\nret 9\nldi 2\nja 0\nret 3\n":     "jeq 1 0 2\nldi 1\nja 1\nldi 2\nret 3\n",
		"jeq 1 0 3\nldi 1\nja 3\nret 9\nja 1\nja 0\nret 3\n":      "jeq 1 0 1\nldi 1\nret 3\n",
		"jeq 1 0 2\nst 3\nja 1\nst 3\nldm 3\nja 1\nret 1\nreta\n": "jeq 1 0 2\nst 3\nja 1\nst 3\nldm 3\nreta\n",
		// a division by X is no end
		"ldi 6\ndivx\nja 1\nret 1\nreta\n": "ldi 6\ndivx\nreta\n",
		// what could be left out for other reasons stays
		"ldi 6\nldi 6\ntax\ntax\nneg\nneg\nreta\n": "ldi 6\nldi 6\ntax\ntax\nneg\nneg\nreta\n",
		"ldi 1\njeq 1 0 1\nret 1\nret 1\n":         "ldi 1\njeq 1 0 1\nret 1\nret 1\n",
	} {
		checkPrune(t, read(t, text), read(t, want))
	}
}

// P9.1: all of an instruction but where it jumps is left as it is.
func TestPruneLeavesTheRest(t *testing.T) {
	odd := func(c uint16, k uint32) api.Instr { return api.Instr{Code: c, Jt: 200, Jf: 100, K: k} }
	list := program(odd(0x05, 1), ret, odd(0x20, 60), odd(0x07, top), api.Instr{Code: 0x4d, Jt: 0, Jf: 3, K: top}, tax, odd(0x05, 2), ret, tax, odd(0x05, 0), odd(0x16, top))
	checkPrune(t, list, program(odd(0x20, 60), odd(0x07, top), api.Instr{Code: 0x4d, Jt: 0, Jf: 2, K: top}, tax, odd(0x05, 1), tax, odd(0x16, top)))
}

// sided is a Jif of a code, one side of which leaves out a places, the other one b.
func sided(c uint16, jt bool, a, b int) api.Instr {
	i := api.Instr{Code: c, Jt: uint8(b), Jf: uint8(a), K: 3}
	if jt {
		i.Jt, i.Jf = i.Jf, i.Jt
	}
	return i
}

// onSides calls do with each code of a Jif, and with both sides of it.
func onSides(do func(c uint16, jt bool)) {
	for _, c := range jifs {
		do(c, true)
		do(c, false)
	}
}

// P9.1: a side goes to an end that is at most 255 places further than the next one, and to no further one.
func TestSideBound(t *testing.T) {
	onSides(func(c uint16, jt bool) {
		for _, front := range []int{0, 1, 300} {
			ahead := many(tax, front)
			for _, away := range []int{2, 127, 128, 254, 255} {
				// the Jif, a Ja to what is that far away from it, and what is between
				between := numbered(away - 1)
				list := slices.Concat(ahead, program(sided(c, jt, 0, 1), ja(uint32(away-1))), between, program(ret))
				checkPrune(t, list, slices.Concat(ahead, program(sided(c, jt, away-1, 0)), between, program(ret)))
			}
			for _, away := range []int{256, 257, 300, 511, 512, 513, 2000} {
				list := slices.Concat(ahead, program(sided(c, jt, 0, 1), ja(uint32(away-1))), numbered(away-1), program(ret))
				checkPrune(t, list, list)
			}
		}
	})
}

// P9.1: the same, where the Ja is as far away as a Jif can go, and next to its target; and where it is the target of both sides.
func TestSideFar(t *testing.T) {
	onSides(func(c uint16, jt bool) {
		between := numbered(255)
		// the Jas are 254 and 255 places further than the next one, their targets 256 and 257; as needed places are between each Ja and its target, both stay
		list := slices.Concat(program(jif(0, 1), sided(c, jt, 255, 254)), between[:254], program(ja(1), ja(1), tax, ret))
		checkPrune(t, list, list)
		// nothing is between: the Ja isn't needed, and the side goes to what is needed next behind it
		list = slices.Concat(program(sided(c, jt, 255, 0)), between, program(ja(0), ret))
		checkPrune(t, list, slices.Concat(program(sided(c, jt, 255, 0)), between, program(ret)))
		// the same with a place that no way comes to between
		list = slices.Concat(program(sided(c, jt, 255, 0)), between, program(ja(2), tax, tax, ret))
		checkPrune(t, list, slices.Concat(program(sided(c, jt, 255, 0)), between, program(ret)))
		// both sides to one Ja, and nothing left between
		list = slices.Concat(program(sided(c, jt, 0, 0), ja(400)), numbered(400), program(ret))
		checkPrune(t, list, program(sided(c, jt, 0, 0), ret))
	})
}

// P9.1: from Ja to Ja a side goes to the last place that is near enough, be it the first or one further on.
func TestSideFromJaToJa(t *testing.T) {
	onSides(func(c uint16, jt bool) {
		// 0 Jif, 1 Ja to 100, 2 to 98, 99 Ja over the other, 100 Ja to 400, 101 to 399, 400
		list := slices.Concat(program(sided(c, jt, 0, 1), ja(98)), numbered(97), program(ja(1), ja(299)), numbered(299), program(ret))
		checkPrune(t, list, slices.Concat(program(sided(c, jt, 98, 0)), numbered(97), program(ja(1), ja(299)), numbered(299), program(ret)))
		// 0 Jif, 1 Ja to 100, 2 to 98, 99 Ja over the others, 100 Ja to 101, which is one to 400
		list = slices.Concat(program(sided(c, jt, 0, 1), ja(98)), numbered(97), program(ja(2), ja(0), ja(298)), numbered(298), program(ret))
		checkPrune(t, list, slices.Concat(program(sided(c, jt, 98, 0)), numbered(97), program(ja(1), ja(298)), numbered(298), program(ret)))
		// 0 Jif, 1 Ja to 300, 2 to 298, 299 Ja over the other, 300 Ja to 400, 301 to 399, 400: the Ja at 1 stays, and goes to the end
		list = slices.Concat(program(sided(c, jt, 0, 1), ja(298)), numbered(297), program(ja(1), ja(99)), numbered(99), program(ret))
		checkPrune(t, list, slices.Concat(program(sided(c, jt, 0, 1), ja(396)), numbered(297), numbered(99), program(ret)))
	})
}

// P9.1: the last place that is near enough is 255 places further than the next one; one more is too far.
func TestSideFromJaToJaBound(t *testing.T) {
	onSides(func(c uint16, jt bool) {
		for _, away := range []int{254, 255, 256, 257} {
			// 0 Jif, 1 Ja to the other Ja, what is between, a Ja over the other, the other Ja, to the end, what is between, the end
			between, behind := numbered(away-2), numbered(300)
			list := slices.Concat(program(sided(c, jt, 0, 1), ja(uint32(away-1))), between, program(ja(1), ja(300)), behind, program(ret))
			want := slices.Concat(program(sided(c, jt, away-1, 0)), between, program(ja(1), ja(300)), behind, program(ret))
			if away > 255 {
				// the other Ja is left out, and then the Ja over it
				want = slices.Concat(program(sided(c, jt, 0, 1), ja(uint32(away+298))), between, behind, program(ret))
			}
			checkPrune(t, list, want)
		}
	})
}

// P9.1: what a round left out lets a jump go straight that was too far; the first round alone doesn't.
func TestSecondRound(t *testing.T) {
	onSides(func(c uint16, jt bool) {
		for out := 1; out <= 20; out++ {
			for _, away := range []int{255 + out, 256 + out} {
				between := numbered(away - 1 - out)
				gone := [][]api.Instr{many(ja(0), out), slices.Concat(program(ja(uint32(out-1))), many(tax, out-1))}
				for _, g := range gone {
					for _, at := range []int{0, 1, 100, len(between)} {
						list := slices.Concat(program(sided(c, jt, 0, 1), ja(uint32(away-1))), between[:at], g, between[at:], program(ret))
						first := "11" + marks(slices.Repeat([]bool{true}, at)) + marks(make([]bool, out)) + marks(slices.Repeat([]bool{true}, len(between)-at)) + "1"
						if got := marks(Needed(list)); got != first {
							t.Fatalf("needed of the first round: %s, not %s", got, first)
						}
						want := slices.Concat(program(sided(c, jt, 254, 0)), between, program(ret))
						if away-out == 256 {
							want = slices.Concat(program(sided(c, jt, 0, 1), ja(255)), between, program(ret))
						}
						checkPrune(t, list, want)
					}
				}
			}
		}
	})
}

// P9.1: the same comes of a filter that a round doesn't change, in memory of its own.
func TestUnchanged(t *testing.T) {
	far := slices.Concat(program(jif(0, 1), ja(300)), numbered(300), program(ret))
	for _, list := range [][]api.Instr{
		program(ret), program(of(0x16, 0)),
		program(of(0x20, 0), jif(0, 1), ret, ret),
		far,
		slices.Concat(many(tax, 4095), program(ret)),
	} {
		checkPrune(t, list, list)
		was := slices.Clone(list)
		got, _ := Prune(list)
		clear(got[:cap(got)])
		if !slices.Equal(list, was) {
			t.Errorf("what comes of %d instructions is in their memory", len(list))
		}
		if want := marks(slices.Repeat([]bool{true}, len(list))); marks(Needed(list)) != want {
			t.Errorf("%d instructions, but some aren't needed", len(list))
		}
	}
}

// P9.1: the longest filters.
func TestLongest(t *testing.T) {
	checkPrune(t, slices.Concat(many(ja(0), 4095), program(ret)), program(ret))
	checkPrune(t, slices.Concat(program(ja(4094)), many(tax, 4094), program(ret)), program(ret))
	checkPrune(t, slices.Concat(program(ret), many(tax, 4094), program(ret)), program(ret))
	checkPrune(t, slices.Concat(numbered(4095), program(ret)), slices.Concat(numbered(4095), program(ret)))
	ladder := append(many(jif(0, 1), 4094), ret, of(0x16, 0))
	checkPrune(t, ladder, ladder)
	// a Ja over all there is, which a Jif leaves out
	over := slices.Concat(program(jif(1, 0), ja(4093)), numbered(4093), program(ret))
	checkPrune(t, over, over)
	// a side's way goes on from Ja to Ja through most of it, and only the first of them is near enough
	list := slices.Concat(program(jif(0, 1), ja(254)), many(tax, 254), many(ja(0), 3839), program(ret))
	checkPrune(t, list, slices.Concat(program(jif(254, 0)), many(tax, 254), program(ret)))
}

// Below, the chapter's words stand once more, as they are there, one by one.

// slowEnd is the end of a place.
func slowEnd(list []api.Instr, at int) int {
	if list[at].Code != 0x05 {
		return at
	}
	return slowEnd(list, at+1+int(list[at].K))
}

// slowSide is where a side of a Jif goes that leaves out so many.
func slowSide(list []api.Instr, at int, by uint8) int {
	way := []int{at + 1 + int(by)}
	for list[way[len(way)-1]].Code == 0x05 {
		last := way[len(way)-1]
		way = append(way, last+1+int(list[last].K))
	}
	for slices.Reverse(way); way[0]-(at+1) > 255; {
		way = way[1:]
	}
	return way[0]
}

// slowGoes is, for each place, where it goes on, all jumps going straight; of a Jif, Jt's place first.
func slowGoes(list []api.Instr) [][]int {
	out := make([][]int, len(list))
	for at, i := range list {
		switch {
		case i.Code == 0x05:
			out[at] = []int{slowEnd(list, at)}
		case i.Code&7 == 5:
			out[at] = []int{slowSide(list, at, i.Jt), slowSide(list, at, i.Jf)}
		case i.Code&7 != 6:
			out[at] = []int{at + 1}
		}
	}
	return out
}

// slowNeeded is what is needed, where places go on so.
func slowNeeded(list []api.Instr, goes [][]int) []bool {
	comes := make([]bool, len(list)+1)
	var come func(at int)
	come = func(at int) {
		if comes[at] {
			return
		}
		comes[at] = true
		for _, to := range goes[at] {
			come(to)
		}
	}
	come(0)
	known := make([]int, len(list))
	var needed func(at int) bool
	needed = func(at int) bool {
		if known[at] != 0 {
			return known[at] == 1
		}
		is := comes[at]
		if is && list[at].Code == 0x05 {
			is = false
			for between := at + 1; between < goes[at][0]; between++ {
				is = is || needed(between)
			}
		}
		known[at] = 2
		if is {
			known[at] = 1
		}
		return is
	}
	out := make([]bool, len(list))
	for at := range list {
		out[at] = needed(at)
	}
	return out
}

// slowRound is what a round leaves.
func slowRound(list []api.Instr) []api.Instr {
	goes := slowGoes(list)
	var stay []int
	for at, is := range slowNeeded(list, goes) {
		if is {
			stay = append(stay, at)
		}
	}
	out := make([]api.Instr, len(stay))
	for n, at := range stay {
		leaves := func(to int) int {
			stands, _ := slices.BinarySearch(stay, to)
			return stands - n - 1
		}
		out[n] = list[at]
		switch {
		case list[at].Code == 0x05:
			out[n].K = uint32(leaves(goes[at][0]))
		case list[at].Code&7 == 5:
			out[n].Jt, out[n].Jf = uint8(leaves(goes[at][0])), uint8(leaves(goes[at][1]))
		}
	}
	return out
}

// slowPrune is what is left behind the rounds, and how many of them changed something.
func slowPrune(list []api.Instr) ([]api.Instr, int) {
	for rounds := 0; ; rounds++ {
		left := slowRound(list)
		if slices.Equal(left, list) {
			return left, rounds
		}
		list = left
	}
}

// checkSlow holds all three functions of a filter against the chapter's words; it tells how many rounds changed something.
func checkSlow(t *testing.T, list []api.Instr) int {
	t.Helper()
	want, rounds := slowPrune(list)
	checkPrune(t, list, want)
	if got, want := marks(Needed(list)), marks(slowNeeded(list, slowGoes(list))); got != want {
		t.Fatalf("Needed of %+v: %s, not %s", list, got, want)
	}
	for n := range 8 {
		at := n * len(list) / 8
		if got, want := End(list, at), slowEnd(list, at); got != want {
			t.Fatalf("End at %d of %+v: %d, not %d", at, list, got, want)
		}
	}
	return rounds
}

// each calls do with all lists of n of the instructions.
func each(of []api.Instr, n int, do func(list []api.Instr)) {
	list := make([]api.Instr, n)
	var fill func(at int)
	fill = func(at int) {
		if at == n {
			do(list)
			return
		}
		for _, i := range of {
			list[at] = i
			fill(at + 1)
		}
	}
	fill(0)
}

// P9.1 and P9.2: all filters of up to six instructions out of nine, and of seven out of seven; each return answers its place.
func TestAllSmall(t *testing.T) {
	of := []api.Instr{of(0x20, 0), ret, ja(0), ja(1), ja(2), jif(0, 1), jif(2, 1), jif(1, 0), jif(0, 2)}
	filters := 0
	for n := 1; n <= 7; n++ {
		each(of[:min(9, 21-2*n)], n, func(list []api.Instr) {
			if !verify.Right(list) {
				return
			}
			filters++
			for at := range list {
				if list[at].Code == 0x06 {
					list[at].K = uint32(at)
				}
			}
			checkSlow(t, list)
		})
	}
	if filters < 10000 {
		t.Errorf("no more than %d filters", filters)
	}
}

// kinds is of how many instructions in a hundred a drawn filter's are Jas, Jifs and returns (beside the last one); and how many places its Jas leave out at most.
type kinds struct{ jas, jifs, rets, reach int }

// drawn is a filter of n instructions, whose returns answer their places.
func drawn(d *draw, n int, of kinds) []api.Instr {
	list := make([]api.Instr, n)
	for at := range list {
		room := n - 1 - at
		switch k := d.below(100); {
		case room == 0 || k < of.rets:
			list[at] = api.Instr{Code: 0x06, K: uint32(at)}
		case k < of.rets+of.jas:
			list[at] = ja(uint32(min(room-1, leave(d, of.reach))))
		case k < of.rets+of.jas+of.jifs:
			room = min(room, 256, 2<<d.below(8))
			list[at] = api.Instr{Code: jifs[d.below(8)], Jt: uint8(d.below(room)), Jf: uint8(d.below(room)), K: uint32(d.below(8))}
		default:
			list[at] = other(d)
		}
	}
	return loaded(d, list)
}

// leave is how many places a Ja leaves out: any number up to a reach, or one near to what a Jif can leave out, so that a little makes a difference.
func leave(d *draw, reach int) int {
	if reach > 255 && d.below(3) == 0 {
		return 253 + d.below(6)
	}
	return d.below(reach + 1)
}

// other is an instruction that goes on to the next one; an ldm's word is left to loaded.
func other(d *draw) api.Instr {
	return []api.Instr{of(0x20, 4*uint32(d.below(16))), tax, of(0x87, 0), of(0x54, 3), of(0x04, 1), of(0x02, uint32(d.below(3))), of(0x03, uint32(d.below(3))), of(0x1c, 0), of(0x3c, 0), of(0x60, 0), of(0x61, 0)}[d.below(11)]
}

// loaded has each load of a scratch word be of one that is written for sure, as there are some.
func loaded(d *draw, list []api.Instr) []api.Instr {
	for at, bits := range verify.Written(list) {
		if c := list[at].Code; c != 0x60 && c != 0x61 {
			continue
		}
		if bits == 0 {
			list[at] = tax
			continue
		}
		w := d.below(16)
		for bits>>w&1 == 0 {
			w = (w + 1) % 16
		}
		list[at].K = uint32(w)
	}
	return list
}

// P9.1 and P9.2: many longer filters against the chapter's words; among them ones with jumps that are too far for a while, and ones with jumps that stay so.
func TestDrawn(t *testing.T) {
	d := draw(17)
	several, stopped := 0, 0
	for _, c := range []struct {
		times, n int
		of       kinds
	}{
		{6000, 24, kinds{25, 20, 5, 8}},
		{3000, 60, kinds{10, 30, 4, 30}},
		{1500, 500, kinds{4, 20, 1, 400}},
		{1500, 900, kinds{2, 30, 0, 300}},
		{500, 1200, kinds{40, 30, 1, 60}},
		{200, 4096, kinds{3, 25, 0, 700}},
		{100, 4096, kinds{10, 60, 0, 300}},
	} {
		for range c.times {
			list := drawn(&d, 1+d.below(c.n), c.of)
			if !verify.Right(list) {
				t.Fatalf("no filter: %+v", list)
			}
			if checkSlow(t, list) > 1 {
				several++
			}
			if toJa(list) {
				stopped++
			}
		}
	}
	if several < 50 || stopped < 200 {
		t.Errorf("no more than %d filters of several rounds, %d in which a jump can't go straight", several, stopped)
	}
}

// toJa tells whether a Jif of what comes of a filter goes to a Ja.
func toJa(list []api.Instr) bool {
	got, _ := Prune(list)
	for at, i := range got {
		if i.Code&7 == 5 && i.Code != 0x05 && (got[at+1+int(i.Jt)].Code == 0x05 || got[at+1+int(i.Jf)].Code == 0x05) {
			return true
		}
	}
	return false
}

// relay is a filter in which each round but the first lets just one Jif's side go straight: that leaves out the Ja behind that Jif, and brings the end of the Jif ahead of it near enough, which was too far by one place for each Ja between.
func relay(jumps int) []api.Instr {
	var list []api.Instr
	for k := jumps; k > 0; k-- {
		list = append(list, jif(1, 0), ja(0))
	}
	first := len(list)
	list = append(list, numbered(254)...)
	list = append(list, ja(0), ret)
	// what the first round leaves out is ahead of the last Jif's end, and behind the others'
	for k := range jumps {
		at := first - 2 - 2*k
		tooFar := max(k, 1)
		list[at+1] = ja(uint32(254 + tooFar))
	}
	return list
}

// P9.1: a filter that takes many rounds.
func TestManyRounds(t *testing.T) {
	for _, jumps := range []int{1, 2, 3, 50, 100} {
		list := relay(jumps)
		if rounds := checkSlow(t, list); rounds != jumps+1 {
			t.Errorf("%d rounds for %d jumps", rounds, jumps)
		}
	}
}

// relays is the same for any length: in each three places there are a Jif, a Ja behind it to 382 places further than it, and a tax. Of the 382 places 127 must go, every third, till the Jif's side goes straight; at the end of the list these are Jas to the very next place.
func relays(n int) []api.Instr {
	list := append(many(tax, n-1), ret)
	for at := n - 4; at >= 0; at -= 3 {
		if at+383 < n {
			list[at], list[at+1] = jif(1, 0), ja(381)
		} else {
			list[at+1] = ja(0)
		}
	}
	return list
}

// P9.1: all Jas go, hundreds of rounds one behind the other.
func TestHundredsOfRounds(t *testing.T) {
	list := relays(1201)
	if rounds := checkSlow(t, list); rounds < 250 {
		t.Errorf("no more than %d rounds", rounds)
	}
	list = relays(4096)
	got, e := Prune(list)
	if e != api.OK || len(got) != 2731 || slices.ContainsFunc(got, func(i api.Instr) bool { return i.Code == 0x05 }) {
		t.Errorf("%d, %d instructions come", e, len(got))
	}
	d := draw(5)
	checkSame(t, list, got, &d, 10)
}

// Rules 3, 4 and 6: a list and its spare room stay as they are, an answer is new memory, and the same each time.
func TestNothingShared(t *testing.T) {
	room := append(read(t, "ja 1\nret 1\nld 0\njeq 5 0 2\nldi 1\nja 2\nldi 2\nja 0\nreta\nret 3\n"), of(0x94, 9), ja(top))
	was := slices.Clone(room)
	list := room[:10]
	want := read(t, "ld 0\njeq 5 0 2\nldi 1\nja 1\nldi 2\nreta\n")
	for range 3 {
		got, e := Prune(list)
		if e != api.OK || !slices.Equal(got, want) {
			t.Fatalf("%d %+v", e, got)
		}
		need := Needed(list)
		if marks(need) != "0011111010" {
			t.Fatal(marks(need))
		}
		if End(list, 0) != 2 || End(list, 7) != 8 {
			t.Fatal(End(list, 0), End(list, 7))
		}
		clear(got[:cap(got)])
		clear(need[:cap(need)])
		if !slices.Equal(room, was) {
			t.Fatal("the list was changed")
		}
	}
}
