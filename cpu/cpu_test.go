package cpu_test

import (
	"fmt"
	"maps"
	"math"
	"math/big"
	"math/rand/v2"
	"slices"
	"testing"

	"donjon/api"
	"donjon/cpu"
	"donjon/isa"
)

// in is an instruction's word, from its bits.
func in(op, p, n int) int64 { return int64(uint64(op)<<56 | uint64(p)<<48 | uint64(uint32(n))) }

// pw is a pointer's word.
func pw(seg, off, ring int) int64 { return int64(ring)<<48 | int64(seg)<<32 | int64(off) }

func ptr(seg, off, ring int) api.Pointer { return api.Pointer{Seg: seg, Off: off, Ring: ring} }

func br(r1, r2, r3, gates int) api.Rings { return api.Rings{R1: r1, R2: r2, R3: r3, Gates: gates} }

// anyRing are brackets in which each ring reads and executes; openRing those in which each reads and writes.
func anyRing() api.Rings { return br(0, 7, 7, 0) }

func openRing() api.Rings { return br(7, 7, 7, 0) }

// segment is one whose words have spare room behind them, with a mark in it.
func segment(modes int, b api.Rings, words ...int64) cpu.Segment {
	l := append(slices.Clone(words), 77, 78)
	return cpu.Segment{Words: l[:len(words)], Modes: modes, Rings: b}
}

// code is a segment that each ring may execute.
func code(words ...int64) cpu.Segment { return segment(api.MRead|api.MExec, anyRing(), words...) }

type write struct {
	seg, off int
	w        int64
}

// store is a memory that hands out its own words, so that whoever changed them would be seen; beside a false it tells of a segment that all may use.
type store struct {
	l      map[int]cpu.Segment
	writes []write
}

func (m *store) Segment(k int) (cpu.Segment, bool) {
	if g, is := m.l[k]; is {
		return g, true
	}
	return segment(7, br(0, 7, 7, 16), make([]int64, 16)...), false
}

func (m *store) Write(k, off int, w int64) {
	m.writes = append(m.writes, write{k, off, w})
	m.l[k].Words[off] = w
}

// with is a memory of segments from 0 on.
func with(l ...cpu.Segment) *store {
	m := &store{l: map[int]cpu.Segment{}}
	for k, g := range l {
		m.l[k] = g
	}
	return m
}

// room is all of a list, its spare room too.
func room[T any](l []T) []T { return l[:cap(l)] }

// kept are copies of segments, with their words' spare room.
func kept(l map[int]cpu.Segment) map[int]cpu.Segment {
	out := maps.Clone(l)
	for k, g := range out {
		g.Words = slices.Clone(room(g.Words))[:len(g.Words)]
		out[k] = g
	}
	return out
}

func sameSegments(a, b map[int]cpu.Segment) bool {
	return maps.EqualFunc(a, b, func(x, y cpu.Segment) bool {
		return x.Modes == y.Modes && x.Rings == y.Rings && slices.Equal(x.Words, y.Words) && slices.Equal(room(x.Words)[:len(x.Words)+2], room(y.Words)[:len(y.Words)+2])
	})
}

// same takes no stack and an empty one as the same (P2).
func same(a, b cpu.State) bool {
	return a.Seg == b.Seg && a.Off == b.Off && a.Ring == b.Ring && a.A == b.A && a.P == b.P && a.Halted == b.Halted && slices.Equal(a.Stack, b.Stack)
}

type answer struct {
	s    cpu.State
	w    int64
	told bool
	e    api.Errno
}

func sameAnswer(a, b answer) bool {
	return same(a.s, b.s) && a.w == b.w && a.told == b.told && a.e == b.e
}

// lone makes a step, and holds it to P2: the state that was handed in, its stack's rows and spare room stay; of the memory only Write changes anything; the answer's stack is nobody else's.
func lone(t *testing.T, s cpu.State, m *store) answer {
	t.Helper()
	mark := cpu.Frame{Seg: 71, Off: 72, Ring: 73}
	s.Stack = append(slices.Clone(s.Stack), mark, mark)
	s.Stack = s.Stack[:len(s.Stack)-2]
	was, rows, segments, writes := s, slices.Clone(room(s.Stack)), kept(m.l), len(m.writes)
	x, w, told, e := cpu.Step(s, m)
	for _, y := range m.writes[writes:] {
		segments[y.seg].Words[y.off] = y.w
	}
	if !sameSegments(m.l, segments) {
		t.Fatalf("P2: of %+v: the memory's words are changed without Write", was)
	}
	out := answer{x, w, told, e}
	out.s.Stack = slices.Clone(x.Stack)
	for k := range room(x.Stack) {
		room(x.Stack)[k] = cpu.Frame{Seg: -1, Off: -2, Ring: -3}
	}
	if !same(s, was) || !slices.Equal(room(s.Stack), rows) {
		t.Fatalf("P2: of %+v: it is %+v, %v behind it", was, s, room(s.Stack))
	}
	return out
}

// step makes one, and holds it to P4 and P5, too: a fault has written nothing, and answers zero values; and to what is told.
func step(t *testing.T, s cpu.State, m *store) answer {
	t.Helper()
	n := len(m.writes)
	x := lone(t, s, m)
	if x.e != api.OK && (!sameAnswer(x, answer{e: x.e}) || len(m.writes) != n) {
		t.Fatalf("P1602, P4, P5: a fault of %+v: %+v, wrote %v", s, x, m.writes[n:])
	}
	if !x.told && x.w != 0 {
		t.Fatalf("P4: of %+v: nothing is told, but %d", s, x.w)
	}
	return x
}

// faults holds a step to an error.
func faults(t *testing.T, what string, s cpu.State, m *store, want api.Errno) {
	t.Helper()
	if x := step(t, s, m); x.e != want {
		t.Errorf("P1602: %s: %v, not %v", what, x.e, want)
	}
}

// becomes holds a step to the state behind it, with nothing told and these writes.
func becomes(t *testing.T, what string, s cpu.State, m *store, want cpu.State, writes ...write) {
	t.Helper()
	n := len(m.writes)
	x := step(t, s, m)
	if !sameAnswer(x, answer{s: want}) || !slices.Equal(m.writes[n:], writes) {
		t.Errorf("P1602: %s: %+v, wrote %v; not %+v, %v", what, x, m.writes[n:], want, writes)
	}
}

// state is one that differs from New's in all it can, at the first word of segment 0, in a ring, with all pointers of that ring.
func state(ring int) cpu.State {
	s := cpu.State{Ring: ring, A: 1234567, Stack: []cpu.Frame{{Seg: 5, Off: 6, Ring: 7}}}
	for k := range s.P {
		s.P[k] = ptr(k+1, 0, ring)
	}
	return s
}

// next is a state behind an operation that does nothing else.
func next(s cpu.State) cpu.State {
	s.Off++
	return s
}

// readers are the operations that read mem.
func readers() []int {
	return []int{isa.Lda, isa.Add, isa.Sub, isa.Mul, isa.Fadd, isa.Fsub, isa.Fmul, isa.Fdiv, isa.Fless, isa.Ldp}
}

// numbers are such as an N may be.
func numbers() []int {
	return []int{0, 1, -1, 2, -2, 15, 16, -16, 1000, 1<<31 - 1, -1 << 31}
}

func TestNew(t *testing.T) { // P1601
	want := cpu.State{Ring: 4, P: [4]api.Pointer{ptr(0, 0, 4), ptr(1, 0, 4), ptr(2, 0, 4), ptr(3, 0, 4)}}
	s := cpu.New()
	if !same(s, want) {
		t.Errorf("P1601: %+v", s)
	}
	s.P[1].Ring, s.A = 0, 9
	s.Stack = append(s.Stack, cpu.Frame{Seg: 1})
	if again := cpu.New(); !same(again, want) { // P7
		t.Errorf("P1601: the next one: %+v", again)
	}
}

func TestExample(t *testing.T) { // P1602: example 1
	m := with(code(in(isa.Ldi, 0, 5), in(isa.Out, 0, 0)))
	x := step(t, cpu.New(), m)
	if x.e != api.OK || x.told || x.s.A != 5 || x.s.Off != 1 {
		t.Fatalf("P1602: Ldi 5: %+v", x)
	}
	x = step(t, x.s, m)
	if x.e != api.OK || !x.told || x.w != 5 || x.s.Off != 2 {
		t.Fatalf("P1602: Out: %+v", x)
	}
	faults(t, "behind the last word", x.s, m, api.ErrBound)
}

func TestHalted(t *testing.T) { // P1602
	odd := cpu.State{Seg: -3, Off: math.MaxInt64, Ring: 99, A: math.MinInt64, P: [4]api.Pointer{ptr(-1, -1, -1), ptr(1<<40, 1<<40, 8), {}, ptr(math.MaxInt64, math.MinInt64, math.MinInt64)}, Stack: make([]cpu.Frame, 20)}
	for k := range odd.Stack {
		odd.Stack[k] = cpu.Frame{Seg: k, Off: -k, Ring: 3 * k}
	}
	for _, s := range []cpu.State{cpu.New(), state(0), state(7), {}, odd, {Stack: []cpu.Frame{}}} {
		s.Halted = true
		for _, m := range []*store{with(), with(code()), with(code(-1)), with(code(in(isa.Out, 0, 0), 0)), with(segment(0, br(0, 0, 0, 0), 0)), with(segment(7, openRing(), in(isa.Sta, 0, 0)))} {
			becomes(t, "halted", s, m, s)
		}
	}
}

func TestFetchedFrom(t *testing.T) { // P1602: segments, modes, rings
	halt := in(isa.Halt, 0, 0)
	for _, k := range []int{-1, 1, 2, 65535, 65536, math.MaxInt64, math.MinInt64} {
		s := state(4)
		s.Seg = k
		faults(t, fmt.Sprint("no segment ", k), s, with(code(halt)), api.ErrBound)
		m := with()
		m.l[k] = code(halt)
		want := next(s)
		want.Halted = true
		becomes(t, fmt.Sprint("a segment ", k), s, m, want)
	}
	for ring := range 8 {
		for r1 := range 8 {
			for r2 := r1; r2 < 8; r2++ {
				for r3 := r2; r3 < 8; r3++ {
					for modes := range 8 {
						s := state(ring)
						s.P[0].Ring, s.P[1].Ring = 0, 7 // no pointer counts here
						m := with(segment(modes, br(r1, r2, r3, 1), halt))
						want := api.OK
						if modes < 4 || ring < r1 || ring > r2 {
							want = api.ErrExec
						}
						faults(t, fmt.Sprint("ring, R1, R2, R3, modes: ", ring, r1, r2, r3, modes), s, m, want)
					}
				}
			}
		}
	}
}

func TestFetchedWord(t *testing.T) { // P1602: Off
	for size := range 18 {
		words := make([]int64, size)
		for k := range words {
			words[k] = in(isa.Ldi, 0, 100+k)
		}
		for off := -3; off < size+3; off++ {
			s := state(3)
			s.Off = off
			if off < 0 || off >= size {
				faults(t, fmt.Sprint("word ", off, " of ", size), s, with(code(words...)), api.ErrBound)
				continue
			}
			want := next(s)
			want.A = int64(100 + off)
			becomes(t, fmt.Sprint("word ", off, " of ", size), s, with(code(words...)), want)
		}
		for _, off := range []int{1 << 31, 1 << 32, 1<<32 + 1, 1<<32 - 1, -1 << 32, -1<<32 + 1, math.MaxInt64, math.MaxInt64 - 1, math.MinInt64, math.MinInt64 + 1} {
			s := state(3)
			s.Off = off
			faults(t, fmt.Sprint("word ", off, " of ", size), s, with(code(words...)), api.ErrBound)
		}
	}
}

func TestFetchedNone(t *testing.T) { // P1602: what isa.Decode refuses, by each of its errors
	words := []int64{-1, math.MinInt64, math.MaxInt64, in(23, 0, 0), in(24, 3, 1), in(127, 0, 0), in(128, 0, 0), in(255, 0, 0)} // ErrKind
	for op := range 23 {
		words = append(words, in(op, 4, 0), in(op, 5, 1), in(op, 128, 0), in(op, 255, -1)) // ErrArg
		for bit := 32; bit < 48; bit++ {
			words = append(words, in(op, 0, 0)|1<<bit, in(op, 3, -1)|1<<bit) // ErrBad
		}
	}
	for _, w := range words {
		if _, e := isa.Decode(w); e == api.OK {
			t.Fatalf("%x is an instruction", uint64(w))
		}
		faults(t, fmt.Sprintf("%x", uint64(w)), state(4), with(code(w)), api.ErrOp)
	}
}

func TestFetchErrorsInOrder(t *testing.T) { // P1602, P6
	for _, x := range []struct {
		what string
		m    *store
		off  int
		want api.Errno
	}{
		{"nothing is right", with(), 9, api.ErrBound},
		{"no mode, no ring, no word", with(segment(3, br(5, 6, 7, 0), -1)), 9, api.ErrExec},
		{"no mode, no word", with(segment(3, anyRing(), -1)), -1, api.ErrExec},
		{"no ring, no word", with(segment(7, br(5, 6, 7, 0), -1)), 1, api.ErrExec},
		{"no words at all, no mode", with(segment(3, anyRing())), 0, api.ErrExec},
		{"no words at all", with(segment(7, anyRing())), 0, api.ErrBound},
		{"no word, none that is right", with(segment(7, anyRing(), -1)), 1, api.ErrBound},
		{"no mode, no instruction", with(segment(3, anyRing(), -1)), 0, api.ErrExec},
		{"no ring, no instruction", with(segment(7, br(5, 6, 7, 0), -1)), 0, api.ErrExec},
		{"no instruction", with(segment(7, anyRing(), -1)), 0, api.ErrOp},
		{"the last word, and no instruction", with(segment(4, anyRing(), 0, -1)), 1, api.ErrOp},
		{"ahead of what it would do", with(segment(3, anyRing(), in(isa.Lda, 3, 0))), 0, api.ErrExec},
		{"it is fetched, and then faults", with(segment(4, anyRing(), in(isa.Lda, 0, 0))), 0, api.ErrBound},
	} {
		s := state(4)
		s.Off = x.off
		faults(t, x.what, s, x.m, x.want)
	}
}

func TestOffIsOneMore(t *testing.T) { // P1602: of every operation that goes on and jumps nowhere
	for op := range 23 {
		for p := range 4 {
			for off := range 3 {
				s := state(4)
				s.Off, s.A = off, 1 // a float below the normal ones, no pointer to anywhere, neither 0 nor below
				words := make([]int64, off, off+1)
				m := with(code(append(words, in(op, p, 1))...))
				m.l[p+1] = segment(7, br(4, 4, 4, 0), 9, 9, 9)
				want := off + 1
				switch op {
				case isa.Jmp, isa.Call:
					want = 1
				case isa.Ret:
					want = 6
				}
				if x := step(t, s, m); x.e != api.OK || x.s.Off != want {
					t.Errorf("P1602: op %d at %d: %v, Off %d", op, off, x.e, x.s.Off)
				}
			}
		}
	}
}

func TestWhatIsLeft(t *testing.T) { // P1602: P and N do not matter to those that do not ask them; what is not named stays
	for p := range 4 {
		for _, n := range numbers() {
			for _, a := range []int64{0, 1, -1, 77, math.MaxInt64, math.MinInt64} {
				s := state(4)
				s.A = a
				want := func(change func(x *cpu.State)) cpu.State {
					x := next(s)
					change(&x)
					return x
				}
				becomes(t, "Halt", s, with(code(in(isa.Halt, p, n))), want(func(x *cpu.State) { x.Halted = true }))
				becomes(t, "Ldi", s, with(code(in(isa.Ldi, p, n))), want(func(x *cpu.State) { x.A = int64(n) }))
				becomes(t, "Flt", s, with(code(in(isa.Flt, p, n))), want(func(x *cpu.State) { x.A = int64(math.Float64bits(float64(a))) }))
				becomes(t, "Jmp", s, with(code(in(isa.Jmp, p, n))), want(func(x *cpu.State) { x.Off = n }))
				becomes(t, "Jz", s, with(code(in(isa.Jz, p, n))), want(func(x *cpu.State) {
					if a == 0 {
						x.Off = n
					}
				}))
				becomes(t, "Jn", s, with(code(in(isa.Jn, p, n))), want(func(x *cpu.State) {
					if a < 0 {
						x.Off = n
					}
				}))
				becomes(t, "Getp", s, with(code(in(isa.Getp, p, n))), want(func(x *cpu.State) { x.A = pw(p+1, 0, 4) }))
				becomes(t, "Ret", s, with(code(in(isa.Ret, p, n))), cpu.State{Seg: 5, Off: 6, Ring: 7, A: a, P: [4]api.Pointer{ptr(1, 0, 7), ptr(2, 0, 7), ptr(3, 0, 7), ptr(4, 0, 7)}})
				if x := step(t, s, with(code(in(isa.Out, p, n)))); !sameAnswer(x, answer{s: next(s), w: a, told: true}) {
					t.Errorf("P1602: Out: %+v", x)
				}
			}
		}
	}
}

// reckoned is what an operation makes of two words, as the language's own numbers say.
func reckoned(op int, a, b int64) int64 {
	x, y := math.Float64frombits(uint64(a)), math.Float64frombits(uint64(b))
	float := func(z float64) int64 {
		if z != z {
			return 0x7FF8000000000001
		}
		return int64(math.Float64bits(z))
	}
	switch op {
	case isa.Lda:
		return b
	case isa.Add:
		return a + b
	case isa.Sub:
		return a - b
	case isa.Mul:
		return a * b
	case isa.Fadd:
		return float(x + y)
	case isa.Fsub:
		return float(x - y)
	case isa.Fmul:
		return float(x * y)
	case isa.Fdiv:
		return float(x / y)
	case isa.Fless:
		if x != x || y != y {
			return 2
		}
		if x < y {
			return 1
		}
	}
	return 0
}

func bits(x float64) int64 { return int64(math.Float64bits(x)) }

// edges are words at the edges of whole numbers and of floats.
func edges() []int64 {
	return []int64{0, 1, -1, 2, -2, 3, 1 << 31, 1 << 32, 1 << 53, math.MaxInt64, math.MinInt64, math.MinInt64 + 1, bits(1), bits(-1), bits(1.5), bits(-3.5), bits(0.1), bits(math.MaxFloat64), bits(-math.MaxFloat64), bits(0x1p-1022), bits(math.Inf(1)), bits(math.Inf(-1)), 0x7FF8000000000001, 0x7FF8000000000000, 0x7FF0000000000001, -0x0008000000000000, bits(0x1p62), bits(0x1p63), bits(-0x1p63), bits(0x1.fffffffffffffp62), bits(-0x1.0000000000001p63)}
}

func TestReckons(t *testing.T) { // P1602: A and mem, in this order
	inf, nan, none := bits(math.Inf(1)), int64(0x7FF8000000000001), int64(math.MinInt64) // none: a nought with a sign
	for _, x := range []struct {
		op         int
		a, b, want int64
	}{
		{isa.Lda, 7, 9, 9}, {isa.Lda, 7, 0, 0}, {isa.Lda, 7, math.MinInt64, math.MinInt64},
		{isa.Add, 7, 9, 16}, {isa.Add, math.MaxInt64, 1, math.MinInt64}, {isa.Add, math.MinInt64, -1, math.MaxInt64},
		{isa.Sub, 7, 9, -2}, {isa.Sub, math.MinInt64, 1, math.MaxInt64}, {isa.Sub, 0, math.MinInt64, math.MinInt64},
		{isa.Mul, 7, -9, -63}, {isa.Mul, math.MinInt64, -1, math.MinInt64}, {isa.Mul, 1 << 62, 4, 0}, {isa.Mul, math.MaxInt64, math.MaxInt64, 1},
		{isa.Fadd, bits(1), bits(2), bits(3)}, {isa.Fadd, inf, bits(math.Inf(-1)), nan}, {isa.Fadd, none, none, none}, {isa.Fadd, none, 0, 0}, {isa.Fadd, 1, 1, 2}, {isa.Fadd, -1, bits(1), nan},
		{isa.Fsub, bits(1), bits(2), bits(-1)}, {isa.Fsub, inf, inf, nan}, {isa.Fsub, none, 0, none}, {isa.Fsub, 0, 0, 0}, {isa.Fsub, bits(1), nan, nan},
		{isa.Fmul, bits(3), bits(0.5), bits(1.5)}, {isa.Fmul, 0, inf, nan}, {isa.Fmul, bits(-1), 0, none}, {isa.Fmul, bits(math.MaxFloat64), bits(2), inf}, {isa.Fmul, 1, bits(0.5), 0},
		{isa.Fdiv, bits(1), bits(2), bits(0.5)}, {isa.Fdiv, bits(1), none, bits(math.Inf(-1))}, {isa.Fdiv, 0, 0, nan}, {isa.Fdiv, bits(-1), inf, none}, {isa.Fdiv, bits(1), 0, inf}, {isa.Fdiv, 0x7FF0000000000001, bits(1), nan},
		{isa.Fless, bits(1), bits(2), 1}, {isa.Fless, bits(2), bits(1), 0}, {isa.Fless, bits(1), bits(1), 0}, {isa.Fless, none, 0, 0}, {isa.Fless, 0, none, 0}, {isa.Fless, nan, 0, 2}, {isa.Fless, 0, nan, 2}, {isa.Fless, inf, inf, 0}, {isa.Fless, bits(-1), none, 1},
	} {
		s := state(4)
		s.A = x.a
		want := next(s)
		want.A = x.want
		becomes(t, fmt.Sprintf("op %d of %x, %x", x.op, uint64(x.a), uint64(x.b)), s, with(code(in(x.op, 0, 0)), segment(1, anyRing(), x.b)), want)
	}
	for _, op := range readers()[:9] {
		for _, a := range edges() {
			for _, b := range edges() {
				s := state(4)
				s.A = a
				want := next(s)
				want.A = reckoned(op, a, b)
				becomes(t, fmt.Sprintf("op %d of %x, %x", op, uint64(a), uint64(b)), s, with(code(in(op, 0, 0)), segment(1, anyRing(), b)), want)
			}
		}
	}
}

func TestFloatAndBack(t *testing.T) { // P1602: Flt, Fix
	for _, a := range edges() {
		s := state(4)
		s.A = a
		want := next(s)
		want.A = bits(float64(a))
		becomes(t, fmt.Sprintf("Flt of %d", a), s, with(code(in(isa.Flt, 0, 0))), want)
	}
	for _, x := range []struct {
		a    int64
		want int64
	}{
		{0, 0}, {math.MinInt64, 0}, {1, 0}, {bits(1), 1}, {bits(-1), -1}, {bits(1.5), 1}, {bits(-3.5), -3}, {bits(0.999), 0}, {bits(-0.999), 0}, {bits(1e15), 1e15}, {bits(0x1p62), 1 << 62}, {bits(0x1.fffffffffffffp62), 1<<63 - 1024}, {bits(-0x1p63), math.MinInt64},
	} {
		s := state(4)
		s.A = x.a
		want := next(s)
		want.A = x.want
		becomes(t, fmt.Sprintf("Fix of %x", uint64(x.a)), s, with(code(in(isa.Fix, 0, 0))), want)
	}
	for _, a := range []int64{bits(math.Inf(1)), bits(math.Inf(-1)), 0x7FF8000000000001, 0x7FF0000000000001, -1, math.MaxInt64, bits(0x1p63), bits(-0x1.0000000000001p63), bits(math.MaxFloat64), bits(-math.MaxFloat64), bits(1e19)} {
		s := state(4)
		s.A = a
		faults(t, fmt.Sprintf("Fix of %x", uint64(a)), s, with(code(in(isa.Fix, 0, 0))), api.ErrOp)
	}
}

func TestJumps(t *testing.T) { // P1602
	for _, op := range []int{isa.Jmp, isa.Jz, isa.Jn} {
		for _, a := range []int64{0, 1, -1, 2, -2, 1 << 32, -1 << 32, math.MaxInt64, math.MinInt64} {
			for _, n := range append(numbers(), 3, 4, 5) {
				s := state(4)
				s.A, s.Off = a, 2
				m := with(code(0, 0, in(op, 1, n), 0, 0))
				want := next(s)
				if op == isa.Jmp || op == isa.Jz && a == 0 || op == isa.Jn && a < 0 {
					want.Off = n
				}
				what := fmt.Sprint("op, A, N: ", op, a, n)
				becomes(t, what, s, m, want)
				if want.Off < 0 || want.Off > 4 { // what is fetched there
					faults(t, what, want, m, api.ErrBound)
				}
			}
		}
	}
	m := with(code(in(isa.Jmp, 0, 0)))
	becomes(t, "to itself", state(4), m, state(4))
}

// within tells whether off and n lead to one of so many words, and to which, by numbers without bounds.
func within(off, n, size int) (int, bool) {
	sum := new(big.Int).Add(big.NewInt(int64(off)), big.NewInt(int64(n)))
	if sum.Sign() < 0 || sum.Cmp(big.NewInt(int64(size))) >= 0 {
		return 0, false
	}
	return int(sum.Int64()), true
}

// offsets are such as a pointer may have.
func offsets() []int {
	return []int{0, 1, 2, 3, 4, 15, 16, -1, -2, -3, 1<<31 - 1, 1 << 31, 1<<31 + 2, 1<<32 - 2, 1<<32 - 1, 1 << 32, -1 << 31, -1<<31 + 1, -1<<31 + 3, -1<<31 - 1, math.MaxInt64, math.MaxInt64 - 1, math.MinInt64, math.MinInt64 + 1}
}

func TestWhereMemIs(t *testing.T) { // P1602: the pointer's segment, its offset and N
	for _, size := range []int{0, 1, 3, 16} {
		words := make([]int64, size)
		for k := range words {
			words[k] = pw(k+1, 2*k, k%8)
		}
		for _, op := range append(readers(), isa.Sta) {
			for p := range 4 {
				for _, off := range offsets() {
					for _, n := range append(numbers(), 3, -3, -1<<31+1) {
						s := state(4)
						s.P[p] = ptr(9, off, 4)
						m := with(code(in(op, p, n)), segment(7, openRing(), 5), segment(7, openRing(), 5), segment(7, openRing(), 5), segment(7, openRing(), 5))
						m.l[9] = segment(7, br(4, 4, 4, 0), words...)
						what := fmt.Sprint("op, P, Off, N, words: ", op, p, off, n, size)
						k, is := within(off, n, size)
						want := next(s)
						switch {
						case !is:
							faults(t, what, s, m, api.ErrBound)
						case op == isa.Sta:
							becomes(t, what, s, m, want, write{9, k, s.A})
						case op == isa.Ldp:
							want.P[p] = ptr(k+1, 2*k, max(4, k%8))
							becomes(t, what, s, m, want)
						default:
							want.A = reckoned(op, s.A, words[k])
							becomes(t, what, s, m, want)
						}
					}
				}
			}
		}
	}
}

func TestNoSegment(t *testing.T) { // P1602
	for _, op := range append(readers(), isa.Sta, isa.Call) {
		for _, k := range []int{1, 2, -1, 65535, 65536, math.MaxInt64, math.MinInt64} {
			s := state(4)
			s.P[2] = ptr(k, 0, 4)
			faults(t, fmt.Sprint("op, segment: ", op, k), s, with(code(in(op, 2, 0))), api.ErrBound)
			m := with(code(in(op, 2, 0)))
			m.l[k] = segment(7, br(4, 4, 4, 0), 3)
			if x := step(t, s, m); x.e != api.OK {
				t.Errorf("P1602: op %d of a segment %d: %v", op, k, x.e)
			}
			if op == isa.Sta && !slices.Equal(m.writes, []write{{k, 0, s.A}}) {
				t.Errorf("P1602: Sta to a segment %d: %v", k, m.writes)
			}
		}
	}
}

func TestWhoMayReadAndWrite(t *testing.T) { // P1602, T4: each mode, ring and pointer's ring by itself
	for ring := range 8 {
		for by := range 8 {
			for r1 := range 8 {
				for r2 := r1; r2 < 8; r2++ {
					for modes := range 8 {
						b, r := br(r1, r2, r2+(7-r2)/2, 3), max(ring, by)
						for _, op := range append(readers(), isa.Sta) {
							s := state(ring)
							for k := range s.P {
								s.P[k].Ring = 7 - by // those of the others do not count
							}
							s.P[1].Ring = by
							m := with(code(in(op, 1, 0)), segment(7, openRing(), 8), segment(modes, b, 8))
							want := api.OK
							if op == isa.Sta && (modes&2 == 0 || r > r1) {
								want = api.ErrWrite
							}
							if op != isa.Sta && (modes&1 == 0 || r > r2) {
								want = api.ErrRead
							}
							x := step(t, s, m)
							if x.e != want || (len(m.writes) == 1) != (op == isa.Sta && want == api.OK) {
								t.Fatalf("P1602: op %d, ring %d, pointer's %d, %v, modes %d: %v, %v", op, ring, by, b, modes, x.e, m.writes)
							}
						}
					}
				}
			}
		}
	}
}

func TestReadErrorsInOrder(t *testing.T) { // P1602, P6
	for _, op := range append(readers(), isa.Sta) {
		mode, no := api.MRead, api.ErrRead
		if op == isa.Sta {
			mode, no = api.MWrite, api.ErrWrite
		}
		far, s := code(in(op, 0, 5)), state(4)
		faults(t, fmt.Sprint(op, ": no segment"), s, with(far), api.ErrBound)
		faults(t, fmt.Sprint(op, ": no mode, no ring, no word"), s, with(far, segment(7-mode, br(0, 0, 0, 0), 1)), no)
		faults(t, fmt.Sprint(op, ": no mode, no word"), s, with(far, segment(7-mode, openRing(), 1)), no)
		faults(t, fmt.Sprint(op, ": no ring, no word"), s, with(far, segment(7, br(3, 3, 7, 0), 1)), no)
		faults(t, fmt.Sprint(op, ": no mode, no words at all"), s, with(far, segment(7-mode, openRing())), no)
		faults(t, fmt.Sprint(op, ": no word"), s, with(far, segment(mode, br(4, 4, 4, 0), 1)), api.ErrBound)
		near := code(in(op, 0, 0))
		faults(t, fmt.Sprint(op, ": no mode"), s, with(near, segment(7-mode, openRing(), 1)), no)
		faults(t, fmt.Sprint(op, ": no ring"), s, with(near, segment(7, br(3, 3, 7, 0), 1)), no)
		faults(t, fmt.Sprint(op, ": all is right"), s, with(near, segment(mode, br(4, 4, 4, 0), 1)), api.OK)
	}
}

func TestSta(t *testing.T) { // P1602: mem is A, whatever A is, and nothing else
	for _, a := range edges() {
		s := state(4)
		s.A = a
		s.P[3] = ptr(2, 1, 4)
		m := with(code(in(isa.Sta, 3, 1)), segment(7, openRing(), 5), segment(api.MWrite, br(4, 4, 4, 0), 5, 6, 7))
		becomes(t, fmt.Sprint("Sta of ", a), s, m, next(s), write{2, 2, a})
		if !slices.Equal(m.l[2].Words, []int64{5, 6, a}) {
			t.Errorf("P1602: Sta of %d: %v", a, m.l[2].Words)
		}
	}
	// into the very segment that is executed: the next step fetches what was written
	s := state(4)
	s.A, s.P[0] = in(isa.Ldi, 0, 55), ptr(0, 0, 4)
	m := with(segment(7, br(4, 4, 4, 0), in(isa.Sta, 0, 1), 0))
	becomes(t, "Sta to what is next", s, m, next(s), write{0, 1, s.A})
	want := next(next(s))
	want.A = 55
	becomes(t, "what was written", next(s), m, want)
}

func TestSetp(t *testing.T) { // P1602: the greater ring of its own and the processor's; what P[p] was does not count
	for ring := range 8 {
		for made := range 8 {
			for was := range 8 {
				for p := range 4 {
					for _, high := range []uint64{0, 1 << 51, 1 << 63, 0xfff8 << 48} { // bits that no pointer has
						s := state(ring)
						s.P[p].Ring = was
						s.A = int64(high | uint64(pw(65535, 1<<32-1, made)))
						want := next(s)
						want.P[p] = ptr(65535, 1<<32-1, max(ring, made))
						becomes(t, fmt.Sprint("Setp: ring, made, was: ", ring, made, was), s, with(code(in(isa.Setp, p, 9))), want)
					}
				}
			}
		}
	}
	s := state(3)
	s.A = 0
	want := next(s)
	want.P[2] = ptr(0, 0, 3)
	becomes(t, "Setp of 0", s, with(code(in(isa.Setp, 2, -1))), want)
}

func TestLdp(t *testing.T) { // P1602: as ring.Follow says, with r and the segment's rings
	for ring := range 8 {
		for by := range 8 {
			for r1 := range 8 {
				for made := range 8 {
					for _, high := range []uint64{0, 1 << 63, 0xfff8 << 48} {
						p := (ring + by + made) % 4
						s := state(ring)
						s.P[p] = ptr(6, 1, by)
						m := with(code(in(isa.Ldp, p, 1)))
						m.l[6] = segment(1, br(r1, 7, 7, 0), 0, 0, int64(high|uint64(pw(9, 1<<31, made))))
						want := next(s)
						want.P[p] = ptr(9, 1<<31, max(ring, by, r1, made))
						becomes(t, fmt.Sprint("Ldp: ring, pointer's, R1, made: ", ring, by, r1, made), s, m, want)
					}
				}
			}
		}
	}
}

func TestGetp(t *testing.T) { // P1602: modulo what a word has room for
	for _, x := range []struct {
		p    api.Pointer
		want int64
	}{
		{ptr(0, 0, 0), 0}, {ptr(1, 2, 3), 0x0003000100000002}, {ptr(65535, 1<<32-1, 7), 0x0007ffffffffffff}, {ptr(65536, 1<<32, 7), 0x0007000000000000}, {ptr(-1, -1, 0), 0x0000ffffffffffff}, {ptr(65538, 1<<32+5, 1), 0x0001000200000005},
	} {
		for p := range 4 {
			s := state(6)
			s.P[p] = x.p
			want := next(s)
			want.A = x.want
			becomes(t, fmt.Sprint("Getp of ", x.p), s, with(code(in(isa.Getp, p, 3))), want)
		}
	}
}

// called is the ring in which a call goes on, by what the document says of brackets, one ring after the other.
func called(b api.Rings, off, r int) (int, bool) {
	switch {
	case off < 0 || off > 15 || r > b.R3:
		return 0, false
	case r > b.R2:
		return b.R2, off < b.Gates
	case r < b.R1:
		return b.R1, true
	}
	return r, true
}

// lifted are pointers, none of them of a ring below the one that is given.
func lifted(p [4]api.Pointer, ring int) [4]api.Pointer {
	for k := range p {
		p[k].Ring = max(p[k].Ring, ring)
	}
	return p
}

func TestCallOverAll(t *testing.T) { // P1602, T4: within the bracket, outward, from outside through a gate; the pointers' rings behind it
	for ring := range 8 {
		for by := range 8 {
			for r1 := range 8 {
				for r2 := r1; r2 < 8; r2++ {
					for r3 := r2; r3 < 8; r3++ {
						for gates := range 4 {
							s := state(ring)
							s.P = [4]api.Pointer{ptr(1, 1, 0), ptr(2, 1, by), ptr(3, 1, 7), ptr(4, 1, (ring+1)%8)}
							b := br(r1, r2, r3, gates)
							m := with(code(in(isa.Call, 1, 1)), segment(0, anyRing()), segment(api.MExec, b, 0, 0, 0))
							what := fmt.Sprint("Call: ring, pointer's, brackets: ", ring, by, b)
							to, is := called(b, 2, max(ring, by))
							if !is {
								faults(t, what, s, m, api.ErrGate)
								continue
							}
							want := cpu.State{Seg: 2, Off: 2, Ring: to, A: s.A, P: lifted(s.P, ring), Stack: append(slices.Clone(s.Stack), cpu.Frame{Seg: 0, Off: 1, Ring: ring})}
							becomes(t, what, s, m, want)
						}
					}
				}
			}
		}
	}
}

func TestCallEdges(t *testing.T) { // P1602
	words := make([]int64, 16)
	for _, off := range offsets() {
		for _, n := range append(numbers(), 14, 17, -15) {
			for _, ring := range []int{0, 2, 5} { // outward, within, through a gate
				s := state(ring)
				s.P[0] = ptr(1, off, 0)
				m := with(code(in(isa.Call, 0, n)), segment(api.MExec, br(1, 3, 6, 16), words...))
				what := fmt.Sprint("Call: ring, Off, N: ", ring, off, n)
				if k, is := within(off, n, 16); is {
					want := cpu.State{Seg: 1, Off: k, Ring: []int{1, 1, 2, 3, 3, 3}[ring], A: s.A, P: lifted(s.P, ring), Stack: append(slices.Clone(s.Stack), cpu.Frame{Seg: 0, Off: 1, Ring: ring})}
					becomes(t, what, s, m, want)
				} else {
					faults(t, what, s, m, api.ErrGate)
				}
			}
		}
	}
	// the gates' last one, and one more
	for gates := range 17 {
		for off := range 16 {
			s := state(5)
			m := with(code(in(isa.Call, 0, off)), segment(api.MExec, br(1, 3, 6, gates), words...))
			want := api.OK
			if off >= gates {
				want = api.ErrGate
			}
			faults(t, fmt.Sprint("Call of ", off, ", gates ", gates), s, m, want)
		}
	}
	// the segment's words: the last one, and one more
	for size := range 16 {
		for off := range 16 {
			want := api.OK
			if off >= size {
				want = api.ErrBound
			}
			faults(t, fmt.Sprint("Call of ", off, ", words ", size), state(2), with(code(in(isa.Call, 0, off)), segment(api.MExec, br(1, 3, 6, 0), words[:size]...)), want)
		}
	}
	for modes := range 8 { // MExec alone is asked
		want := api.OK
		if modes < 4 {
			want = api.ErrExec
		}
		faults(t, fmt.Sprint("Call, modes ", modes), state(2), with(code(in(isa.Call, 0, 0)), segment(modes, br(1, 3, 6, 0), 0)), want)
	}
}

func TestCallErrorsInOrder(t *testing.T) { // P1602, P6
	full, free := state(4), state(4)
	full.Stack = make([]cpu.Frame, api.MaxStack)
	for _, x := range []struct {
		what  string
		modes int
		b     api.Rings
		n     int
		s     cpu.State
		want  api.Errno
	}{
		{"no mode, no gate, no word, no frame", 3, br(0, 0, 0, 0), 9, full, api.ErrExec},
		{"no mode", 3, anyRing(), 0, free, api.ErrExec},
		{"no mode, no gate", 3, br(0, 0, 0, 0), 0, free, api.ErrExec},
		{"no mode, no word", 3, anyRing(), 9, free, api.ErrExec},
		{"no mode, no frame", 3, anyRing(), 0, full, api.ErrExec},
		{"no gate, no word, no frame", 4, br(0, 0, 7, 2), 9, full, api.ErrGate},
		{"no gate, no word", 4, br(0, 0, 7, 2), 9, free, api.ErrGate},
		{"no gate, no frame", 4, br(0, 0, 3, 2), 0, full, api.ErrGate},
		{"no gate", 4, br(0, 0, 3, 2), 0, free, api.ErrGate},
		{"no offset: 16", 4, anyRing(), 16, free, api.ErrGate},
		{"no offset: -1, no frame", 4, anyRing(), -1, full, api.ErrGate},
		{"no word, no frame", 4, anyRing(), 9, full, api.ErrBound},
		{"no word, and a gate", 4, br(0, 0, 7, 10), 9, free, api.ErrBound},
		{"no word", 4, anyRing(), 15, free, api.ErrBound},
		{"no frame", 4, anyRing(), 0, full, api.ErrStack},
		{"all is right", 4, anyRing(), 1, free, api.OK},
	} {
		faults(t, "Call: "+x.what, x.s, with(code(in(isa.Call, 0, x.n)), segment(x.modes, x.b, 0, 0)), x.want)
		faults(t, "Call: no segment, "+x.what, x.s, with(code(in(isa.Call, 0, x.n))), api.ErrBound)
	}
}

func TestCallsUpToMaxStack(t *testing.T) { // P1602: each frame by itself, and one too many; and all the way back
	m := with(segment(api.MExec, anyRing(), 0, 0, in(isa.Call, 0, 0)), segment(api.MExec, anyRing(), in(isa.Call, 0, 0)))
	s := cpu.New()
	s.Off, s.P[0] = 2, ptr(1, 0, 4)
	var frames []cpu.Frame
	for k := range api.MaxStack {
		frames = append(frames, cpu.Frame{Seg: min(k, 1), Off: 3 - 2*min(k, 1), Ring: 4})
		want := s
		want.Seg, want.Off, want.Stack = 1, 0, slices.Clone(frames)
		becomes(t, fmt.Sprint("call ", k+1), s, m, want)
		s = want
	}
	if len(s.Stack) != 8 {
		t.Fatalf("P1602: %d frames", len(s.Stack))
	}
	faults(t, "call 9", s, m, api.ErrStack)
	m.l[1].Words[0] = in(isa.Ret, 3, 3)
	for k := len(frames) - 1; k > 0; k-- {
		want := s
		want.Off, want.Stack = 1, frames[:k]
		becomes(t, fmt.Sprint("return to ", k), s, m, want)
		s = want
		s.Off = 0
	}
	want := s
	want.Seg, want.Off, want.Stack = 0, 3, nil
	becomes(t, "the last return", s, m, want)
}

func TestRet(t *testing.T) { // P1602: an empty stack, a frame whose ring is below, the pointers' rings behind it
	m := with(code(in(isa.Ret, 0, 0)))
	for ring := range 8 {
		none := state(ring)
		for _, l := range [][]cpu.Frame{nil, {}} {
			none.Stack = l
			faults(t, fmt.Sprint("Ret: an empty stack, ring ", ring), none, m, api.ErrStack)
		}
		for to := range 8 {
			for by := range 8 {
				s := state(ring)
				s.P = [4]api.Pointer{ptr(1, 1, by), ptr(2, 2, 0), ptr(3, 3, 7), ptr(4, 4, ring)}
				s.Stack = []cpu.Frame{{Seg: 1, Off: 2, Ring: 0}, {Seg: 3, Off: 4, Ring: 7}, {Seg: -5, Off: 1 << 40, Ring: to}}
				what := fmt.Sprint("Ret: ring, to, pointer's: ", ring, to, by)
				if to < ring {
					faults(t, what, s, m, api.ErrGate)
					continue
				}
				want := cpu.State{Seg: -5, Off: 1 << 40, Ring: to, A: s.A, P: lifted(s.P, to), Stack: s.Stack[:2]}
				becomes(t, what, s, m, want)
				faults(t, what+": there is nothing", want, m, api.ErrBound) // that is for the next step to say
			}
		}
	}
}

func TestThereAndBack(t *testing.T) { // P1602, T4: through a gate, and back; outward, and not back
	gate := with(segment(api.MExec, br(4, 4, 4, 0), in(isa.Call, 1, 1)), segment(api.MExec, br(1, 2, 5, 2), 0, in(isa.Ret, 0, 0)))
	s := cpu.New()
	x := step(t, s, gate)
	if x.e != api.OK || x.s.Ring != 2 || x.s.P != s.P {
		t.Fatalf("P1602: through a gate: %+v", x)
	}
	x.s.P[3] = ptr(9, 9, 2) // that it made there
	x = step(t, x.s, gate)
	s.Off, s.P[3] = 1, ptr(9, 9, 4)
	if x.e != api.OK || !same(x.s, s) {
		t.Fatalf("P1602: and back: %+v", x)
	}
	out := with(segment(api.MExec, br(1, 1, 1, 0), in(isa.Call, 0, 0)), segment(api.MExec, br(3, 5, 6, 0), in(isa.Ret, 0, 0)))
	x = step(t, state(1), out)
	if x.e != api.OK || x.s.Ring != 3 || x.s.P != state(1).P {
		t.Fatalf("P1602: outward: %+v", x)
	}
	faults(t, "a return lowers no ring", x.s, out, api.ErrGate)
}

func TestToldByOutAlone(t *testing.T) { // P1602
	for _, a := range edges() {
		for op := range 23 {
			s := state(4)
			s.A = a
			m := with(code(in(op, 2, 1)))
			m.l[3] = segment(7, br(4, 4, 4, 0), 9, 9)
			x := step(t, s, m)
			if op == isa.Fix && x.e == api.ErrOp {
				continue
			}
			if x.e != api.OK || x.told != (op == isa.Out) || x.told && x.w != a {
				t.Errorf("P1602: op %d with A %d: %+v", op, a, x)
			}
		}
	}
}

// lambda is a memory of another kind: no pointer, no words of its own; two functions.
type lambda struct {
	segment func(k int) (cpu.Segment, bool)
	write   func(k, off int, w int64)
}

func (m lambda) Segment(k int) (cpu.Segment, bool) { return m.segment(k) }

func (m lambda) Write(k, off int, w int64) { m.write(k, off, w) }

// rom is one that forgets what is written: a program, and nothing else.
type rom []int64

func (m rom) Segment(k int) (cpu.Segment, bool) {
	return cpu.Segment{Words: m, Modes: 7, Rings: br(4, 4, 4, 0)}, k == 0
}

func (rom) Write(int, int, int64) {}

func TestOtherMemories(t *testing.T) { // P1602: nothing but the interface is asked
	// each number is a segment, whose words tell which; the code's is 0
	var wrote []write
	every := lambda{
		segment: func(k int) (cpu.Segment, bool) {
			if k == 0 {
				return cpu.Segment{Words: []int64{in(isa.Lda, 1, 1), in(isa.Sta, 2, -1), in(isa.Call, 3, 0)}, Modes: api.MExec, Rings: anyRing()}, true
			}
			return cpu.Segment{Words: []int64{in(isa.Ret, 0, 0), int64(k)}, Modes: 7, Rings: br(4, 4, 4, 0)}, true
		},
		write: func(k, off int, w int64) { wrote = append(wrote, write{k, off, w}) },
	}
	for _, k := range []int{-1, 1, 65535, math.MaxInt64, math.MinInt64} {
		s := cpu.New()
		s.P[1], s.P[2], s.P[3] = ptr(k, 0, 4), ptr(k, 1, 0), ptr(k, 0, 2)
		wrote = nil
		for i := range 4 {
			x, _, _, e := cpu.Step(s, every)
			if e != api.OK {
				t.Fatalf("P1602: step %d, segment %d: %v", i, k, e)
			}
			s = x
		}
		want := cpu.State{Off: 3, Ring: 4, A: int64(k), P: [4]api.Pointer{ptr(0, 0, 4), ptr(k, 0, 4), ptr(k, 1, 4), ptr(k, 0, 4)}}
		if !same(s, want) || !slices.Equal(wrote, []write{{k, 0, int64(k)}}) {
			t.Errorf("P1602: segment %d: %+v, wrote %v", k, s, wrote)
		}
	}
	// a write is not the processor's to do, or to remember
	forgets := rom{in(isa.Ldi, 0, 7), in(isa.Sta, 0, 3), in(isa.Lda, 0, 3), 55}
	s := cpu.New()
	for range 3 {
		x, _, _, e := cpu.Step(s, forgets)
		if e != api.OK {
			t.Fatalf("P1602: %v", e)
		}
		s = x
	}
	if s.A != 55 || forgets[3] != 55 {
		t.Errorf("P1602: what was forgotten is %d, %d", s.A, forgets[3])
	}
	// segments that change from step to step, behind its back
	turn := 0
	moves := lambda{segment: func(k int) (cpu.Segment, bool) {
		return cpu.Segment{Words: []int64{in(isa.Ldi, 0, turn), in(isa.Ldi, 0, -turn)}, Modes: api.MExec, Rings: anyRing()}, turn < 2
	}}
	for s = cpu.New(); turn < 2; turn++ {
		x, _, _, e := cpu.Step(s, moves)
		if e != api.OK || x.A != int64([]int{0, -1}[turn]) {
			t.Errorf("P1602: turn %d: %+v, %v", turn, x, e)
		}
		s = x
	}
	if _, _, _, e := cpu.Step(s, moves); e != api.ErrBound {
		t.Errorf("P1602: a segment that is gone: %v", e)
	}
}

func TestModesOfMoreBits(t *testing.T) { // P1602: the three bits are asked, each by itself, and no other one
	for modes := range 8 {
		for _, more := range []int{8, 16, 1 << 40, -8} {
			for _, x := range []struct{ op, mode int }{{isa.Lda, api.MRead}, {isa.Sta, api.MWrite}, {isa.Call, api.MExec}} {
				m := with(code(in(x.op, 0, 0)), segment(modes|more, br(4, 4, 4, 0), 5))
				if y := step(t, state(4), m); (y.e == api.OK) != (modes&x.mode != 0) {
					t.Errorf("P1602: op %d, modes %d: %v", x.op, modes|more, y.e)
				}
			}
		}
	}
}

func TestStatesThatMayNotBe(t *testing.T) { // P1, P2, P8: it ends, and changes nothing that was handed in
	far := []int{-1, 8, 9, -8, 255, math.MaxInt64, math.MinInt64}
	for op := range 23 {
		for _, n := range append(numbers(), far[2:5]...) {
			for _, ring := range append(far, 0, 4, 7) {
				for _, by := range append(far, 0, 4, 7) {
					for _, frames := range []int{0, 1, 8, 9, 30} {
						s := state(ring)
						s.P[0].Ring, s.P[1].Ring = by, ring
						s.Stack = slices.Repeat([]cpu.Frame{{Seg: 0, Off: n, Ring: by}}, frames)
						m := with(segment(7, br(math.MinInt64, math.MaxInt64, math.MaxInt64, 16), in(op, 0, n&1)), segment(7, br(by, ring, n, n), 1, 2))
						lone(t, s, m)
					}
				}
			}
		}
	}
}

func TestSameAgain(t *testing.T) { // P3: nothing is kept from step to step
	r := rand.New(rand.NewPCG(16, 1))
	for range 3000 {
		m, other := drawnMemory(r), drawnMemory(r)
		s, first := drawnState(r, m), kept(m.l)
		x := step(t, s, m)
		step(t, drawnState(r, other), other)
		again := &store{l: first}
		if y := step(t, s, again); !sameAnswer(x, y) || !slices.Equal(m.writes, again.writes) {
			t.Fatalf("P3: of %+v: %+v, then %+v", s, x, y)
		}
	}
}

// The same once more, by the rows of the document, on values alone: what is answered, and what is written.

func plain(s cpu.State, l map[int]cpu.Segment) (answer, []write) {
	if s.Halted {
		return answer{s: s}, nil
	}
	w, e := plainFetch(s, l)
	if e != api.OK {
		return answer{e: e}, nil
	}
	op, p, n := int(w>>56), int(w>>48&3), int(int32(w))
	s.Off++
	seg, off, r := s.P[p].Seg, s.P[p].Off+n, max(s.Ring, s.P[p].Ring)
	g, known := l[seg]
	in := off >= 0 && off < len(g.Words)
	switch op {
	case isa.Lda, isa.Add, isa.Sub, isa.Mul, isa.Fadd, isa.Fsub, isa.Fmul, isa.Fdiv, isa.Fless, isa.Ldp, isa.Sta:
		mode, end, no := 1, g.Rings.R2, api.ErrRead
		if op == isa.Sta {
			mode, end, no = 2, g.Rings.R1, api.ErrWrite
		}
		switch {
		case !known:
			return answer{e: api.ErrBound}, nil
		case g.Modes&mode == 0 || r > end:
			return answer{e: no}, nil
		case !in:
			return answer{e: api.ErrBound}, nil
		case op == isa.Sta:
			return answer{s: s}, []write{{seg, off, s.A}}
		case op == isa.Ldp:
			x := uint64(g.Words[off])
			s.P[p] = ptr(int(x>>32&0xffff), int(x&0xffffffff), max(int(x>>48&7), r, g.Rings.R1))
		default:
			s.A = reckoned(op, s.A, g.Words[off])
		}
	case isa.Fix:
		f := math.Float64frombits(uint64(s.A))
		if !(f >= -0x1p63 && f < 0x1p63) {
			return answer{e: api.ErrOp}, nil
		}
		s.A = int64(f)
	case isa.Call:
		to, is := called(g.Rings, off, r)
		switch {
		case !known:
			return answer{e: api.ErrBound}, nil
		case g.Modes&4 == 0:
			return answer{e: api.ErrExec}, nil
		case !is:
			return answer{e: api.ErrGate}, nil
		case !in:
			return answer{e: api.ErrBound}, nil
		case len(s.Stack) == 8:
			return answer{e: api.ErrStack}, nil
		}
		s.P = lifted(s.P, s.Ring)
		s.Stack = append(slices.Clone(s.Stack), cpu.Frame{Seg: s.Seg, Off: s.Off, Ring: s.Ring})
		s.Seg, s.Off, s.Ring = seg, off, to
	case isa.Ret:
		if len(s.Stack) == 0 {
			return answer{e: api.ErrStack}, nil
		}
		f := s.Stack[len(s.Stack)-1]
		if f.Ring < s.Ring {
			return answer{e: api.ErrGate}, nil
		}
		s.Seg, s.Off, s.Ring, s.P, s.Stack = f.Seg, f.Off, f.Ring, lifted(s.P, f.Ring), s.Stack[:len(s.Stack)-1]
	case isa.Out:
		return answer{s: s, w: s.A, told: true}, nil
	default:
		s = plainRest(s, op, p, n)
	}
	return answer{s: s}, nil
}

func plainFetch(s cpu.State, l map[int]cpu.Segment) (uint64, api.Errno) {
	g, known := l[s.Seg]
	switch {
	case !known:
		return 0, api.ErrBound
	case g.Modes&4 == 0 || s.Ring < g.Rings.R1 || s.Ring > g.Rings.R2:
		return 0, api.ErrExec
	case s.Off < 0 || s.Off >= len(g.Words):
		return 0, api.ErrBound
	}
	w := uint64(g.Words[s.Off])
	if w>>56 > 22 || w>>48&255 > 3 || w>>32&0xffff != 0 {
		return 0, api.ErrOp
	}
	return w, api.OK
}

// plainRest does what can't fail.
func plainRest(s cpu.State, op, p, n int) cpu.State {
	switch op {
	case isa.Halt:
		s.Halted = true
	case isa.Ldi:
		s.A = int64(n)
	case isa.Flt:
		s.A = bits(float64(s.A))
	case isa.Jmp:
		s.Off = n
	case isa.Jz:
		if s.A == 0 {
			s.Off = n
		}
	case isa.Jn:
		if s.A < 0 {
			s.Off = n
		}
	case isa.Setp:
		x := uint64(s.A)
		s.P[p] = ptr(int(x>>32&0xffff), int(x&0xffffffff), max(int(x>>48&7), s.Ring))
	case isa.Getp:
		s.A = int64(uint64(s.P[p].Ring)&7<<48 | uint64(s.P[p].Seg)&0xffff<<32 | uint64(s.P[p].Off)&0xffffffff)
	}
	return s
}

// drawnWord is mostly an instruction that may go on, or a pointer to somewhere; seldom anything at all.
func drawnWord(r *rand.Rand) int64 {
	switch k := r.IntN(24); {
	case k == 0:
		return int64(r.Uint64())
	case k < 3:
		return pw(r.IntN(5), r.IntN(6), r.IntN(8))
	case k < 5:
		return in([]int{isa.Call, isa.Ret}[r.IntN(2)], r.IntN(4), r.IntN(4))
	}
	return in(r.IntN(23), r.IntN(4), r.IntN(9)-1)
}

// drawnMemory has up to five segments, most of them with wide brackets and all modes.
func drawnMemory(r *rand.Rand) *store {
	m := with()
	for k := range 5 {
		words := make([]int64, 4+r.IntN(13))
		for i := range words {
			words[i] = drawnWord(r)
		}
		b := []int{r.IntN(8), r.IntN(8), r.IntN(8)}
		if r.IntN(3) > 0 {
			b = []int{r.IntN(5), 3 + r.IntN(5), 7}
		}
		slices.Sort(b)
		modes := 7
		if r.IntN(6) == 0 {
			modes = r.IntN(8)
		}
		if r.IntN(20) > 0 {
			m.l[k] = segment(modes, br(b[0], b[1], b[2], r.IntN(17)), words...)
		}
	}
	return m
}

// drawnState is mostly in a ring in which it may go on there.
func drawnState(r *rand.Rand, m *store) cpu.State {
	s := cpu.State{Seg: r.IntN(5), Off: r.IntN(5), Ring: r.IntN(8), A: []int64{0, 1, -1, bits(1.5), bits(math.Inf(1)), int64(r.Uint64()), drawnWord(r)}[r.IntN(7)], Halted: r.IntN(40) == 0}
	if b := m.l[s.Seg].Rings; r.IntN(8) > 0 {
		s.Ring = b.R1 + r.IntN(b.R2-b.R1+1)
	}
	for k := range s.P {
		s.P[k] = ptr(r.IntN(5), r.IntN(4), min(r.IntN(8), r.IntN(8)))
	}
	for range r.IntN(9) {
		s.Stack = append(s.Stack, cpu.Frame{Seg: r.IntN(5), Off: r.IntN(5), Ring: r.IntN(8)})
	}
	return s
}

// seen counts what drawn programs have come by, so that a test that has looked at nothing is seen.
type seen struct {
	done, faulted [23]int
	falls, rises  int
}

func TestDrawnPrograms(t *testing.T) { // P1602, P1603, T4
	r := rand.New(rand.NewPCG(16, 2))
	var c seen
	for range 60000 {
		m := drawnMemory(r)
		s, made := drawnState(r, m), [4]int{}
		for k := range s.P {
			made[k] = s.P[k].Ring
		}
		for range 25 {
			was, segments, n := s, kept(m.l), len(m.writes)
			want, writes := plain(was, segments)
			x := step(t, s, m)
			if !sameAnswer(x, want) || !slices.Equal(m.writes[n:], writes) {
				t.Fatalf("P1602: of %+v in %+v: %+v, wrote %v; not %+v, %v", was, segments, x, m.writes[n:], want, writes)
			}
			w, e := plainFetch(was, segments)
			if was.Halted || e != api.OK {
				break
			}
			i, _ := isa.Decode(int64(w))
			if x.e != api.OK {
				c.faulted[i.Op]++
				break
			}
			c.done[i.Op]++
			follows(t, i, was, x.s, segments, m.writes[n:], &made, &c)
			s = x.s
		}
	}
	for op := range 23 {
		if c.done[op] < 500 || slices.Contains([]int{isa.Lda, isa.Sta, isa.Add, isa.Fless, isa.Fix, isa.Ldp, isa.Call, isa.Ret}, op) && c.faulted[op] < 50 {
			t.Errorf("op %d was done %d times, and faulted %d times: too seldom", op, c.done[op], c.faulted[op])
		}
	}
	if c.falls < 300 || c.rises < 300 {
		t.Errorf("the ring fell %d times, and rose %d times: too seldom", c.falls, c.rises)
	}
}

// follows holds a step that went on to P1603: made are the rings of who made the pointers.
func follows(t *testing.T, i api.Instr, was, s cpu.State, l map[int]cpu.Segment, writes []write, made *[4]int, c *seen) {
	t.Helper()
	p := was.P[i.P]
	r := max(was.Ring, p.Ring)
	if s.Ring < was.Ring {
		c.falls++
		b := l[s.Seg].Rings
		if i.Op != isa.Call || s.Ring != b.R2 || s.Seg != p.Seg || s.Off != p.Off+i.N || s.Off >= b.Gates || r <= b.R2 || r > b.R3 {
			t.Fatalf("P1603: the ring falls: %v, %+v, then %+v in %v", i, was, s, b)
		}
	}
	if s.Ring > was.Ring {
		c.rises++
		if i.Op != isa.Call && i.Op != isa.Ret {
			t.Fatalf("T4: the ring rises: %v, %+v, then %+v", i, was, s)
		}
	}
	for _, w := range writes {
		b := l[w.seg].Rings
		if i.Op != isa.Sta || was.Ring > b.R1 || p.Ring > b.R1 || l[w.seg].Modes&api.MWrite == 0 {
			t.Fatalf("P1603: a write by %v, %+v in %v", i, was, b)
		}
	}
	if i.Op == isa.Setp {
		made[i.P] = was.Ring
	}
	if i.Op == isa.Ldp {
		made[i.P] = max(r, l[p.Seg].Rings.R1)
	}
	for k := range s.P {
		anew := k == i.P && (i.Op == isa.Setp || i.Op == isa.Ldp)
		if s.P[k].Ring < made[k] || s.P[k].Ring > 7 || !anew && s.P[k].Ring < was.P[k].Ring {
			t.Fatalf("P1603: pointer %d: %v, %+v, then %+v", k, i, was, s)
		}
	}
}
