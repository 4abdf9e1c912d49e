package machine

import (
	"math"
	"slices"
	"testing"

	"tamis/api"
)

const top = math.MaxUint32

// full is a state with another number in each of its words, so that what is moved from or to a wrong place shows; so is whole, the record.
var (
	full = State{At: 1, A: 1000, X: 77, M: [16]uint32{100, 101, 102, 103, 104, 105, 106, 107, 108, 109, 110, 111, 112, 113, 114, 115}, Answer: 9}

	whole = api.Record{200, 201, 202, 203, 204, 205, 206, 207, 208, 209, 210, 211, 212, 213, 214, 215}
)

// The instructions that the tests are made of, written out by hand.
var (
	ret  = api.Instr{Code: 0x06, K: 7}
	reta = api.Instr{Code: 0x16}
	tax  = api.Instr{Code: 0x07}
	txa  = api.Instr{Code: 0x87}
	divx = api.Instr{Code: 0x3c}
)

func of(c uint16, k uint32) api.Instr        { return api.Instr{Code: c, K: k} }
func jump(c uint16, jt, jf uint8) api.Instr  { return api.Instr{Code: c, Jt: jt, Jf: jf, K: 5} }
func program(list ...api.Instr) []api.Instr  { return list }
func many(i api.Instr, n int) []api.Instr    { return slices.Repeat([]api.Instr{i}, n) }
func with(change func(s *State)) (out State) { out = full; change(&out); return out }

// there are all codes that there are, as the chapter of codes lists them.
var there = []uint16{
	0x20, 0x80, 0x00, 0x60, 0x01, 0x61, 0x81, 0x02, 0x03,
	0x04, 0x14, 0x24, 0x34, 0x44, 0x54, 0x64, 0x74, 0xa4,
	0x0c, 0x1c, 0x2c, 0x3c, 0x4c, 0x5c, 0x6c, 0x7c, 0xac, 0x84,
	0x05, 0x15, 0x25, 0x35, 0x45, 0x1d, 0x2d, 0x3d, 0x4d,
	0x06, 0x16, 0x07, 0x87,
}

// corners are words at which carries, signs and moves go wrong first.
var corners = []uint32{0, 1, 2, 3, 7, 31, 32, 33, 63, 64, 0xffff, 0x10000, 0x7fffffff, 0x80000000, 0xaaaaaaaa, top - 1, top}

// checkStep has the instruction stand at place 1, with room behind it for any of its jumps, and asks for the state behind it.
func checkStep(t *testing.T, i api.Instr, s, want State) {
	t.Helper()
	list := append(program(ret, i), many(ret, 300)...)
	if got, e := Step(list, whole, s); got != want || e != api.OK {
		t.Errorf("%+v at %+v:\n%+v %d, not\n%+v", i, s, got, e, want)
	}
}

// checkRefused asks for the error, and nothing beside it.
func checkRefused(t *testing.T, list []api.Instr, s State, want api.Errno) {
	t.Helper()
	if got, e := Step(list, whole, s); got != (State{}) || e != want {
		t.Errorf("%d instructions at %+v:\n%+v %d, not %d", len(list), s, got, e, want)
	}
}

// P7.1: no place below 0, none at len(list) and behind it; so it is of a state that has ended, too.
func TestStepRange(t *testing.T) {
	for _, list := range [][]api.Instr{nil, {}, program(ret), program(ret, ret, ret)[:2], program(of(0x94, 0)), many(ret, 4096), many(tax, 5000)} {
		n := len(list)
		for _, at := range []int{-1, -2, -n - 1, n, n + 1, n + 4096, math.MinInt, math.MaxInt, math.MinInt32, math.MaxInt32} {
			for _, over := range []bool{false, true} {
				checkRefused(t, list, with(func(s *State) { s.At, s.Ended, s.Answer = at, over, 3 }), api.ErrRange)
			}
		}
	}
}

// P7.1: what is wrong with the instruction alone is told, ahead of the state's end.
func TestStepLocal(t *testing.T) {
	for _, c := range []struct {
		i    api.Instr
		want api.Errno
	}{
		{of(0x94, 1), api.ErrCode}, {of(0x8c, 1), api.ErrCode}, {of(0x0e, 1), api.ErrCode}, {of(0x28, 0), api.ErrCode}, {of(0x120, 0), api.ErrCode}, {of(top>>16, 0), api.ErrCode},
		{of(0x20, 1), api.ErrLoad}, {of(0x20, 62), api.ErrLoad}, {of(0x20, 64), api.ErrLoad}, {of(0x20, top), api.ErrLoad},
		{of(0x60, 16), api.ErrWord}, {of(0x61, 16), api.ErrWord}, {of(0x02, 16), api.ErrWord}, {of(0x03, 16), api.ErrWord}, {of(0x02, top), api.ErrWord},
		{of(0x34, 0), api.ErrZero},
		{of(0x64, 32), api.ErrShift}, {of(0x74, 32), api.ErrShift}, {of(0x64, top), api.ErrShift},
		{of(0x05, 2), api.ErrJump}, {of(0x05, top), api.ErrJump}, {of(0x05, top-1), api.ErrJump}, {jump(0x15, 2, 0), api.ErrJump}, {jump(0x2d, 0, 2), api.ErrJump}, {jump(0x45, 255, 255), api.ErrJump},
	} {
		for _, over := range []bool{false, true} {
			s := with(func(s *State) { s.Ended = over })
			checkRefused(t, program(ret, c.i, ret, ret), s, c.want)
		}
	}
}

// P7.1: nothing is done behind the end, whatever stands there.
func TestStepEnded(t *testing.T) {
	for _, c := range there {
		list := program(ret, of(c, 4), ret, ret, ret, ret, ret)
		checkRefused(t, list, with(func(s *State) { s.Ended = true }), api.ErrEnd)
		checkRefused(t, list, with(func(s *State) { s.Ended, s.Answer = true, 9 }), api.ErrEnd)
	}
	for _, i := range []api.Instr{ret, reta} {
		s, e := Step(program(i), whole, State{})
		if e != api.OK {
			t.Fatal(e)
		}
		checkRefused(t, program(i), s, api.ErrEnd)
	}
}

// P7.1: one instruction can be done whatever stands beside it: an unwritten word is what the state has, and the last place needn't return.
func TestStepOfNoFilter(t *testing.T) {
	s := full
	s.At = 0
	want := s
	want.At, want.A = 1, 103
	for _, list := range [][]api.Instr{program(of(0x60, 3)), program(of(0x60, 3), of(0x94, 0)), append(program(of(0x60, 3)), many(of(0x34, 0), 5000)...)} {
		if got, e := Step(list, whole, s); got != want || e != api.OK {
			t.Errorf("%+v %d", got, e)
		}
	}
	list := many(tax, 5000)
	s.At = 4999
	want = s
	want.At, want.X = 5000, want.A
	if got, e := Step(list, whole, s); got != want || e != api.OK {
		t.Errorf("%+v %d", got, e)
	}
}

// P7.1: what is brought to A and to X, and nothing else.
func TestStepLoads(t *testing.T) {
	for w := range uint32(16) {
		checkStep(t, of(0x20, 4*w), full, with(func(s *State) { s.At, s.A = 2, 200+w }))
		checkStep(t, of(0x60, w), full, with(func(s *State) { s.At, s.A = 2, 100+w }))
		checkStep(t, of(0x61, w), full, with(func(s *State) { s.At, s.X = 2, 100+w }))
	}
	for _, k := range corners {
		checkStep(t, of(0x80, k), full, with(func(s *State) { s.At, s.A = 2, 64 }))
		checkStep(t, of(0x81, k), full, with(func(s *State) { s.At, s.X = 2, 64 }))
		checkStep(t, of(0x00, k), full, with(func(s *State) { s.At, s.A = 2, k }))
		checkStep(t, of(0x01, k), full, with(func(s *State) { s.At, s.X = 2, k }))
		checkStep(t, of(0x07, k), full, with(func(s *State) { s.At, s.X = 2, 1000 }))
		checkStep(t, of(0x87, k), full, with(func(s *State) { s.At, s.A = 2, 77 }))
	}
}

// P7.1: what is stored, in that word alone.
func TestStepStores(t *testing.T) {
	for w := range uint32(16) {
		checkStep(t, of(0x02, w), full, with(func(s *State) { s.At = 2; s.M[w] = 1000 }))
		checkStep(t, of(0x03, w), full, with(func(s *State) { s.At = 2; s.M[w] = 77 }))
	}
}

// reckoning is what a reckoning of a and b comes to: in 64 bits, and with none of package word's ways.
func reckoning(op uint16, a, b uint64) uint64 {
	const words = 1 << 32
	power := uint64(1)
	for range b % 32 {
		power *= 2
	}
	switch op {
	case 0x00:
		return (a + b) % words
	case 0x10:
		return (words + a - b) % words
	case 0x20:
		return a * b % words
	case 0x30:
		return (a - a%b) / b
	case 0x40:
		return a + b - a&b
	case 0x50:
		return a & b
	case 0x60:
		return a * power % words
	case 0x70:
		return a / power
	case 0x80:
		return (words - a) % words
	}
	return a + b - 2*(a&b)
}

// P7.1: each reckoning, by K and by X, with the sums, differences and products beyond a word, the shifts by X of 32 and more, and neg of A alone.
func TestStepAlu(t *testing.T) {
	for _, op := range []uint16{0x00, 0x10, 0x20, 0x30, 0x40, 0x50, 0x60, 0x70, 0x80, 0xa0} {
		for _, a := range corners {
			for _, b := range corners {
				want := uint32(0)
				if op != 0x30 || b != 0 {
					want = uint32(reckoning(op, uint64(a), uint64(b)))
				}
				byK := !(op == 0x30 && b == 0) && !((op == 0x60 || op == 0x70) && b > 31)
				if byK {
					checkStep(t, of(op|0x04, b), with(func(s *State) { s.A = a }), with(func(s *State) { s.At, s.A = 2, want }))
				}
				byX := !(op == 0x30 && b == 0) && op != 0x80
				if byX {
					checkStep(t, of(op|0x0c, 3), with(func(s *State) { s.A, s.X = a, b }), with(func(s *State) { s.At, s.A, s.X = 2, want, b }))
				}
			}
		}
	}
	checkStep(t, of(0x6c, 0), with(func(s *State) { s.A, s.X = 3, 33 }), with(func(s *State) { s.At, s.A, s.X = 2, 6, 33 }))
	checkStep(t, of(0x7c, 0), with(func(s *State) { s.A, s.X = 12, 64 }), with(func(s *State) { s.At, s.A, s.X = 2, 12, 64 }))
	checkStep(t, of(0x84, 9), with(func(s *State) { s.A = 1 }), with(func(s *State) { s.At, s.A = 2, top }))
}

// P7.1: a division by X that is 0 ends where it stands, with 0 in A and as its answer; whatever its K is.
func TestStepDivisionByZero(t *testing.T) {
	for _, a := range corners {
		for _, k := range corners {
			s := with(func(s *State) { s.A, s.X = a, 0 })
			want := with(func(s *State) { s.A, s.X, s.Ended, s.Answer = 0, 0, true, 0 })
			checkStep(t, of(0x3c, k), s, want)
			checkStep(t, of(0x3c, k), with(func(s *State) { s.A, s.X = a, 1 }), with(func(s *State) { s.At, s.A, s.X = 2, a, 1 }))
		}
	}
}

// P7.1: a return ends where it stands, and changes no word.
func TestStepReturns(t *testing.T) {
	for _, k := range corners {
		checkStep(t, of(0x06, k), full, with(func(s *State) { s.Ended, s.Answer = true, k }))
		checkStep(t, of(0x16, k), full, with(func(s *State) { s.Ended, s.Answer = true, 1000 }))
		checkStep(t, of(0x16, 5), with(func(s *State) { s.A = k }), with(func(s *State) { s.A, s.Ended, s.Answer = k, true, k }))
	}
}

// P7.1: a Ja goes K places beyond the next one; its Jt and Jf are nothing to it.
func TestStepJa(t *testing.T) {
	for _, k := range []uint32{0, 1, 2, 255, 256, 299} {
		checkStep(t, api.Instr{Code: 0x05, Jt: 9, Jf: 200, K: k}, full, with(func(s *State) { s.At = 2 + int(k) }))
	}
	list := append(program(of(0x05, 1<<17)), many(ret, 1<<17+1)...)
	if s, e := Step(list, whole, State{}); s != (State{At: 1<<17 + 1}) || e != api.OK {
		t.Error(s, e)
	}
}

// P7.1: a Jif goes by Jt, if it is so, else by Jf; by K, or by X.
func TestStepJif(t *testing.T) {
	for _, op := range []uint16{0x10, 0x20, 0x30, 0x40} {
		for _, a := range corners {
			for _, b := range corners {
				so := map[uint16]bool{0x10: a == b, 0x20: a > b, 0x30: a >= b, 0x40: a&b > 0}[op]
				to := 2 + 255
				if so {
					to = 2 + 17
				}
				checkStep(t, api.Instr{Code: op | 0x05, Jt: 17, Jf: 255, K: b}, with(func(s *State) { s.A = a }), with(func(s *State) { s.At, s.A = to, a }))
				checkStep(t, api.Instr{Code: op | 0x0d, Jt: 17, Jf: 255, K: a ^ 1}, with(func(s *State) { s.A, s.X = a, b }), with(func(s *State) { s.At, s.A, s.X = to, a, b }))
			}
		}
	}
	checkStep(t, jump(0x15, 0, 0), full, with(func(s *State) { s.At = 2 }))
}

// slow is a machine of the tests' own; it goes by the codes' numbers. It tells the answer and the places.
func slow(list []api.Instr, r api.Record) (uint32, []int) {
	var a, x uint32
	var m [16]uint32
	var places []int
	for at := 0; ; at++ {
		places = append(places, at)
		i := list[at]
		b := i.K
		if i.Code&8 != 0 {
			b = x
		}
		switch {
		case i.Code == 0x06:
			return i.K, places
		case i.Code == 0x16:
			return a, places
		case i.Code == 0x3c && x == 0:
			return 0, places
		case i.Code&7 == 4:
			a = uint32(reckoning(i.Code&0xf0, uint64(a), uint64(b)))
		case i.Code == 0x05:
			at += int(i.K)
		case i.Code&7 == 5:
			so := []bool{i.Code&0xf0 == 0x10 && a == b, i.Code&0xf0 == 0x20 && a > b, i.Code&0xf0 == 0x30 && a >= b, i.Code&0xf0 == 0x40 && a&b != 0}
			by := i.Jf
			if slices.Contains(so, true) {
				by = i.Jt
			}
			at += int(by)
		case i.Code == 0x02:
			m[i.K] = a
		case i.Code == 0x03:
			m[i.K] = x
		default:
			a, x = slowLoad(i, r, m, a, x)
		}
	}
}

func slowLoad(i api.Instr, r api.Record, m [16]uint32, a, x uint32) (uint32, uint32) {
	switch i.Code {
	case 0x20:
		return r[i.K/4], x
	case 0x80:
		return 64, x
	case 0x00:
		return i.K, x
	case 0x60:
		return m[i.K], x
	case 0x81:
		return a, 64
	case 0x01:
		return a, i.K
	case 0x61:
		return a, m[i.K]
	case 0x07:
		return a, a
	}
	return x, x
}

// checkAll holds Run, Steps, Trace and one Step after the other against the answer and the places.
func checkAll(t *testing.T, list []api.Instr, r api.Record, answer uint32, places []int) {
	t.Helper()
	if n, e := Run(list, r); n != answer || e != api.OK {
		t.Fatalf("Run of %+v: %d %d, not %d", list, n, e, answer)
	}
	if n, e := Steps(list, r); n != len(places) || e != api.OK {
		t.Fatalf("Steps of %+v: %d %d, not %d", list, n, e, len(places))
	}
	got, e := Trace(list, r)
	if !slices.Equal(got, places) || e != api.OK {
		t.Fatalf("Trace of %+v: %v %d, not %v", list, got, e, places)
	}
	last := -1
	for _, at := range got {
		if at <= last || at >= len(list) {
			t.Fatalf("Trace of %+v doesn't rise: %v", list, got)
		}
		last = at
	}
	var s State
	for _, at := range places {
		if s.At != at || s.Ended {
			t.Fatalf("%+v: it stands at %+v, not at %d", list, s, at)
		}
		if s, e = Step(list, r, s); e != api.OK {
			t.Fatalf("Step of %+v at %d: %d", list, at, e)
		}
	}
	if !s.Ended || s.Answer != answer || s.At != last {
		t.Fatalf("%+v: the last state is %+v", list, s)
	}
}

// P7.1: what is no filter has no answer, no steps and no places, even if the run would never come to what is wrong.
func TestNoFilter(t *testing.T) {
	for i, list := range [][]api.Instr{
		nil, {},
		many(ret, 4097),
		program(tax),
		program(ret, tax),
		program(of(0x60, 0), ret),
		program(of(0x61, 15), ret),
		program(jump(0x15, 0, 1), of(0x02, 0), of(0x60, 0), ret),
		program(ret, of(0x94, 0), ret),
		program(ret, of(0x20, 3), ret),
		program(ret, of(0x02, 16), ret),
		program(ret, of(0x34, 0), ret),
		program(ret, of(0x64, 32), ret),
		program(ret, of(0x05, 1), ret),
		program(ret, jump(0x15, 1, 0), ret),
		program(ret, jump(0x15, 0, 1), ret),
	} {
		if n, e := Run(list, whole); n != 0 || e != api.ErrArg {
			t.Errorf("%d: Run %d %d", i, n, e)
		}
		if n, e := Steps(list, whole); n != 0 || e != api.ErrArg {
			t.Errorf("%d: Steps %d %d", i, n, e)
		}
		if places, e := Trace(list, whole); len(places) != 0 || e != api.ErrArg {
			t.Errorf("%d: Trace %v %d", i, places, e)
		}
	}
}

// P7.1 and P7.2: filters whose answers and places were found by hand.
func TestRuns(t *testing.T) {
	example := program(of(0x20, 0), api.Instr{Code: 0x15, Jt: 0, Jf: 1, K: 5}, of(0x06, 1), of(0x06, 2))
	for _, c := range []struct {
		list   []api.Instr
		r      api.Record
		answer uint32
		places []int
	}{
		{example, api.Record{5}, 1, []int{0, 1, 2}},
		{example, api.Record{6}, 2, []int{0, 1, 3}},
		{example, api.Record{0, 5}, 2, []int{0, 1, 3}},
		{program(ret), whole, 7, []int{0}},
		{program(of(0x06, top)), whole, top, []int{0}},
		{program(reta), whole, 0, []int{0}},
		{program(txa, reta), whole, 0, []int{0, 1}},
		{program(divx, ret), whole, 0, []int{0}},
		{program(of(0x00, 9), divx, ret), whole, 0, []int{0, 1}},
		{program(of(0x00, 9), of(0x01, 2), divx, reta), whole, 4, []int{0, 1, 2, 3}},
		{program(ret, ret, ret), whole, 7, []int{0}},
		{program(of(0x05, 0), of(0x05, 1), ret, of(0x06, 8)), whole, 8, []int{0, 1, 3}},
		{program(of(0x05, 1), of(0x60, 3), ret), whole, 7, []int{0, 2}},
		{program(of(0x20, 60), of(0x02, 15), of(0x20, 4), of(0x61, 15), of(0x1c, 0), of(0x84, 0), reta), whole, 14, []int{0, 1, 2, 3, 4, 5, 6}},
	} {
		checkAll(t, c.list, c.r, c.answer, c.places)
	}
}

// P7.2: the longest filters: one that does all of its instructions, one that leaves out all but two, one that goes as far as a Jif can.
func TestLongRuns(t *testing.T) {
	list := append(many(of(0x04, 3), 4095), reta)
	all := make([]int, 4096)
	for at := range all {
		all[at] = at
	}
	checkAll(t, list, whole, 3*4095, all)
	list[0] = of(0x05, 4094)
	checkAll(t, list, whole, 0, []int{0, 4095})
	list = append(many(api.Instr{Code: 0x15, Jt: 255}, 4096-256), many(ret, 256)...)
	var far []int
	for at := 0; at < 4096; at += 256 {
		far = append(far, at)
	}
	checkAll(t, list, whole, 7, far)
}

// P7.1 and P7.2: all filters of up to four instructions out of these.
func TestAllShort(t *testing.T) {
	out := program(of(0x20, 0), of(0x01, 2), of(0x02, 1), of(0x60, 1), of(0x04, 1), divx, tax, of(0x05, 1), jump(0x15, 1, 0), jump(0x2d, 0, 2), ret, reta)
	var grow func(list []api.Instr)
	filters := 0
	grow = func(list []api.Instr) {
		if n := len(list); n > 0 && list[n-1].Code&7 == 6 {
			if _, e := Run(list, whole); e == api.OK {
				filters++
				for _, nr := range []uint32{0, 5, 6} {
					r := api.Record{nr}
					answer, places := slow(list, r)
					checkAll(t, list, r, answer, places)
				}
			}
		}
		if len(list) == 4 {
			return
		}
		for _, i := range out {
			grow(append(slices.Clone(list), i))
		}
	}
	grow(nil)
	if filters < 1000 {
		t.Errorf("%d filters", filters)
	}
}

// draw tells one number after the other, the same ones in each run of the tests.
type draw uint64

func (d *draw) below(n int) int {
	*d = *d*6364136223846793005 + 1442695040888963407
	return int(uint64(*d)>>33) % n
}

// filter is n instructions: all 16 words are written first, then any that can stand there, then a return.
func (d *draw) filter(n int) []api.Instr {
	var list []api.Instr
	for w := range uint32(16) {
		list = append(list, of(0x20, uint32(4*d.below(16))), of(0x02+uint16(d.below(2)), w))
	}
	for left := n; left > 0; left-- {
		list = append(list, d.any(left))
	}
	return append(list, []api.Instr{ret, reta}[d.below(2)])
}

// any is one instruction with so many others, or the last one, behind it; returns are rare.
func (d *draw) any(left int) api.Instr {
	c := there[d.below(len(there))]
	for c == 0x06 || c == 0x16 || c == 0x3c {
		if d.below(16) == 0 {
			break
		}
		c = there[d.below(len(there))]
	}
	i := api.Instr{Code: c, K: corners[d.below(len(corners))], Jt: uint8(d.below(min(left, 6))), Jf: uint8(d.below(min(left, 6)))}
	switch {
	case c == 0x20:
		i.K = uint32(4 * d.below(16))
	case c == 0x60 || c == 0x61 || c == 0x02 || c == 0x03:
		i.K = uint32(d.below(16))
	case c == 0x34:
		i.K |= 1
	case c == 0x64 || c == 0x74:
		i.K %= 32
	case c == 0x05:
		i.K = uint32(d.below(min(left, 6)))
	}
	return i
}

// P7.1 and P7.2: many longer filters, held against the slow machine.
func TestManyLong(t *testing.T) {
	d := draw(1)
	for range 20000 {
		list := d.filter(1 + d.below(40))
		var r api.Record
		for w := range r {
			r[w] = corners[d.below(len(corners))]
		}
		answer, places := slow(list, r)
		checkAll(t, list, r, answer, places)
	}
}

// Rules 3, 4 and 6: the program and its spare room stay as they are, answers are new memory, and the same again.
func TestNothingShared(t *testing.T) {
	room := append(program(of(0x20, 0), of(0x02, 3), of(0x61, 3), of(0x0c, 0), reta), many(of(0x94, 3), 20)...)
	was := slices.Clone(room)
	list := room[:5]
	r := whole
	first, _ := Trace(list, r)
	second, _ := Trace(list, r)
	for at := range first[:cap(first)] {
		first[:cap(first)][at] = -1
	}
	if !slices.Equal(second, []int{0, 1, 2, 3, 4}) {
		t.Errorf("two answers share memory: %v", second)
	}
	for range 2 {
		checkAll(t, list, r, 400, second)
	}
	s := State{At: 1, A: 5}
	if got, e := Step(list, r, s); got.M[3] != 5 || e != api.OK || s != (State{At: 1, A: 5}) {
		t.Errorf("%+v %d from %+v", got, e, s)
	}
	if !slices.Equal(room, was) || r != whole {
		t.Error("an argument was changed")
	}
}
