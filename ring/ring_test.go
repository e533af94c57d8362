package ring_test

import (
	"math"
	"math/rand/v2"
	"testing"

	"donjon/api"
	"donjon/ring"
)

func br(r1, r2, r3, gates int) api.Rings { return api.Rings{R1: r1, R2: r2, R3: r3, Gates: gates} }

// far are numbers beside 0 to 7 and far away: some of them are a ring's in their lowest bits.
func far() []int {
	return []int{-1, 8, -2, 9, -7, -8, -9, 15, 16, 17, 255, 256, 259, -253, math.MaxInt32, math.MinInt32, 1 << 32, 1<<32 + 3, -1<<32 + 3, 1 << 40, math.MaxInt64 - 1, math.MaxInt64, math.MinInt64, math.MinInt64 + 1, math.MinInt64 + 4}
}

// noOffsets are numbers that are no offset, beside 0 to 15 and far away.
func noOffsets() []int {
	out := []int{16, 17}
	for _, n := range far() {
		if n < 0 || n > 15 {
			out = append(out, n)
		}
	}
	return out
}

// brackets are all that may be, with each count of gates.
func brackets() []api.Rings {
	var out []api.Rings
	for r1 := range 8 {
		for r2 := r1; r2 < 8; r2++ {
			for r3 := r2; r3 < 8; r3++ {
				for gates := range 17 {
					out = append(out, br(r1, r2, r3, gates))
				}
			}
		}
	}
	return out
}

// refused are brackets that may not be: those that do not rise, those beyond the ends, and too few or too many gates.
func refused() []api.Rings {
	out := []api.Rings{br(2, 1, 3, 2), br(1, 3, 2, 2), br(3, 2, 1, 2), br(7, 0, 7, 16), br(5, 1, 2, 2), br(7, 7, 0, 1), br(1, 0, 0, 1), br(0, 1, 0, 1), br(0, 0, 0, -1), br(0, 0, 0, 17), br(1, 3, 5, 17), br(1, 3, 5, -1)}
	for _, n := range far() {
		out = append(out, br(n, 3, 5, 2), br(1, n, 5, 2), br(1, 3, n, 2), br(n, n, n, 2), br(0, n, n, 2), br(n, n, 7, 2))
		if n < 0 || n > 16 {
			out = append(out, br(1, 3, 5, n))
		}
	}
	return out
}

func TestCheckEdges(t *testing.T) { // P601
	for _, x := range []struct {
		b    api.Rings
		want api.Errno
	}{
		{br(0, 0, 0, 0), api.OK}, {br(4, 4, 4, 0), api.OK}, {br(7, 7, 7, 16), api.OK}, // all alike
		{br(0, 1, 2, 1), api.OK}, {br(1, 2, 3, 1), api.OK}, {br(5, 6, 7, 1), api.OK}, // rise by one
		{br(0, 0, 1, 1), api.OK}, {br(0, 1, 1, 1), api.OK}, {br(6, 6, 7, 1), api.OK}, {br(6, 7, 7, 1), api.OK},
		{br(0, 7, 7, 0), api.OK}, {br(0, 0, 7, 0), api.OK}, {br(0, 3, 7, 8), api.OK},
		{br(1, 0, 1, 0), api.ErrArg}, {br(1, 0, 0, 0), api.ErrArg}, {br(2, 1, 7, 0), api.ErrArg}, {br(7, 6, 7, 0), api.ErrArg}, {br(7, 0, 7, 0), api.ErrArg}, // fall at the first place
		{br(0, 1, 0, 0), api.ErrArg}, {br(0, 2, 1, 0), api.ErrArg}, {br(7, 7, 6, 0), api.ErrArg}, {br(0, 7, 0, 0), api.ErrArg}, {br(7, 7, 0, 0), api.ErrArg}, // at the second
		{br(2, 1, 0, 0), api.ErrArg}, {br(7, 6, 5, 0), api.ErrArg}, // at both
		{br(-1, 0, 0, 0), api.ErrArg}, {br(-1, -1, 0, 0), api.ErrArg}, {br(-1, -1, -1, 0), api.ErrArg}, {br(0, -1, 0, 0), api.ErrArg}, {br(0, 0, -1, 0), api.ErrArg},
		{br(7, 7, 8, 0), api.ErrArg}, {br(7, 8, 8, 0), api.ErrArg}, {br(8, 8, 8, 0), api.ErrArg}, {br(0, 0, 8, 0), api.ErrArg}, {br(0, 8, 7, 0), api.ErrArg}, {br(8, 7, 7, 0), api.ErrArg},
		{br(1, 3, 5, 0), api.OK}, {br(1, 3, 5, 1), api.OK}, {br(1, 3, 5, 15), api.OK}, {br(1, 3, 5, api.MaxWords), api.OK}, // gates
		{br(1, 3, 5, api.MaxWords+1), api.ErrArg}, {br(1, 3, 5, -1), api.ErrArg}, {br(0, 0, 0, 17), api.ErrArg}, {br(7, 7, 7, -1), api.ErrArg},
		{br(2, 1, 3, 17), api.ErrArg}, {br(-1, 8, 0, -1), api.ErrArg}, // several at once
	} {
		if e := ring.Check(x.b); e != x.want {
			t.Errorf("P601: Check of %v: %v", x.b, e)
		}
	}
	for _, b := range refused() {
		if e := ring.Check(b); e != api.ErrArg {
			t.Errorf("P601: Check of %v: %v", b, e)
		}
	}
}

func TestCheckOverAll(t *testing.T) { // P601, P9
	may := make(map[api.Rings]int)
	for _, b := range brackets() {
		may[b] = 1
	}
	for r1 := -2; r1 <= 9; r1++ {
		for r2 := -2; r2 <= 9; r2++ {
			for r3 := -2; r3 <= 9; r3++ {
				for gates := -2; gates <= 18; gates++ {
					b, want := br(r1, r2, r3, gates), api.ErrArg
					if may[b] == 1 {
						want = api.OK
					}
					if e := ring.Check(b); e != want {
						t.Fatalf("P601: Check of %v: %v", b, e)
					}
				}
			}
		}
	}
}

// sides tells (by 1) the rings that may write, read and execute, gone through one by one.
func sides(b api.Rings) (write, read, exec [8]int) {
	for r := 0; r <= b.R2; r++ {
		read[r] = 1
		if r <= b.R1 {
			write[r] = 1
		}
	}
	for r := b.R1; r <= b.R2; r++ {
		exec[r] = 1
	}
	return write, read, exec
}

func TestMay(t *testing.T) { // P601
	for _, b := range brackets() {
		write, read, exec := sides(b)
		for r := range 8 {
			if ring.MayWrite(b, r) != (write[r] == 1) {
				t.Fatalf("P601: MayWrite of %v, %d: %v", b, r, ring.MayWrite(b, r))
			}
			if ring.MayRead(b, r) != (read[r] == 1) {
				t.Fatalf("P601: MayRead of %v, %d: %v", b, r, ring.MayRead(b, r))
			}
			if ring.MayExec(b, r) != (exec[r] == 1) {
				t.Fatalf("P601: MayExec of %v, %d: %v", b, r, ring.MayExec(b, r))
			}
		}
	}
}

func TestMayAtTheEnds(t *testing.T) { // P601
	for _, x := range []struct {
		b                 api.Rings
		ring              int
		write, read, exec bool
	}{
		{br(0, 0, 0, 0), 0, true, true, true}, {br(0, 0, 0, 0), 1, false, false, false},
		{br(7, 7, 7, 0), 7, true, true, true}, {br(7, 7, 7, 0), 6, true, true, false}, {br(7, 7, 7, 0), 0, true, true, false},
		{br(1, 3, 5, 2), 0, true, true, false}, {br(1, 3, 5, 2), 1, true, true, true}, {br(1, 3, 5, 2), 2, false, true, true}, {br(1, 3, 5, 2), 3, false, true, true},
		{br(1, 3, 5, 2), 4, false, false, false}, {br(1, 3, 5, 2), 5, false, false, false}, {br(1, 3, 5, 2), 6, false, false, false}, {br(1, 3, 5, 2), 7, false, false, false},
		{br(0, 7, 7, 0), 7, false, true, true}, {br(0, 0, 7, 16), 7, false, false, false}, {br(4, 4, 4, 0), 4, true, true, true},
	} {
		if ring.MayWrite(x.b, x.ring) != x.write || ring.MayRead(x.b, x.ring) != x.read || ring.MayExec(x.b, x.ring) != x.exec {
			t.Errorf("P601: of %v, %d: may write %v, read %v, execute %v", x.b, x.ring, ring.MayWrite(x.b, x.ring), ring.MayRead(x.b, x.ring), ring.MayExec(x.b, x.ring))
		}
	}
}

func TestNoRing(t *testing.T) { // P601, P602, P4: of brackets that may not be too
	for _, b := range append(brackets(), refused()...) {
		for _, r := range far() {
			if ring.MayWrite(b, r) || ring.MayRead(b, r) || ring.MayExec(b, r) {
				t.Fatalf("P601: of %v, %d: may write %v, read %v, execute %v", b, r, ring.MayWrite(b, r), ring.MayRead(b, r), ring.MayExec(b, r))
			}
			for _, off := range []int{-1, 0, 1, 2, 15, 16} {
				if n, e := ring.Call(b, off, r); n != 0 || e != api.ErrGate {
					t.Fatalf("P601: Call of %v, %d from %d: %d, %v", b, off, r, n, e)
				}
			}
		}
	}
}

func TestExample(t *testing.T) { // P602
	b := br(1, 3, 5, 2)
	for _, x := range []struct {
		off, ring, want int
		e               api.Errno
	}{
		{1, 5, 3, api.OK}, {2, 5, 0, api.ErrGate}, {1, 0, 1, api.OK}, // the chapter's
		{0, 5, 3, api.OK}, {0, 4, 3, api.OK}, {1, 4, 3, api.OK}, {2, 4, 0, api.ErrGate}, {15, 4, 0, api.ErrGate}, {15, 5, 0, api.ErrGate},
		{0, 6, 0, api.ErrGate}, {1, 6, 0, api.ErrGate}, {0, 7, 0, api.ErrGate}, {15, 7, 0, api.ErrGate},
		{0, 0, 1, api.OK}, {2, 0, 1, api.OK}, {15, 0, 1, api.OK},
		{0, 1, 1, api.OK}, {2, 1, 1, api.OK}, {15, 1, 1, api.OK}, {0, 2, 2, api.OK}, {15, 2, 2, api.OK}, {0, 3, 3, api.OK}, {2, 3, 3, api.OK}, {15, 3, 3, api.OK},
		{-1, 0, 0, api.ErrGate}, {-1, 2, 0, api.ErrGate}, {-1, 5, 0, api.ErrGate}, {16, 0, 0, api.ErrGate}, {16, 2, 0, api.ErrGate}, {16, 5, 0, api.ErrGate},
	} {
		if n, e := ring.Call(b, x.off, x.ring); n != x.want || e != x.e {
			t.Errorf("P602: Call of %v, %d from %d: %d, %v", b, x.off, x.ring, n, e)
		}
	}
}

// goesOn tells, for each ring, where a call goes on (-1: nowhere), counted outward along the brackets.
func goesOn(b api.Rings, off int) [8]int {
	var to [8]int
	r := 0
	for ; r < b.R1; r++ {
		to[r] = b.R1
	}
	for ; r < b.R2+1; r++ {
		to[r] = r
	}
	for ; r < b.R3+1; r++ {
		to[r] = -1
		for gate := range b.Gates {
			if gate == off {
				to[r] = b.R2
			}
		}
	}
	for ; r < 8; r++ {
		to[r] = -1
	}
	return to
}

func TestCallOverAll(t *testing.T) { // P602, P4
	for _, b := range brackets() {
		for off := range 16 {
			to := goesOn(b, off)
			for r := range 8 {
				want, wantE := to[r], api.OK
				if want < 0 {
					want, wantE = 0, api.ErrGate
				}
				if n, e := ring.Call(b, off, r); n != want || e != wantE {
					t.Fatalf("P602: Call of %v, %d from %d: %d, %v", b, off, r, n, e)
				}
			}
		}
	}
}

func TestNoOffset(t *testing.T) { // P602, P4: from every ring, of brackets that may not be too
	for _, b := range append(brackets(), refused()...) {
		for _, off := range noOffsets() {
			for r := -1; r <= 8; r++ {
				if n, e := ring.Call(b, off, r); n != 0 || e != api.ErrGate {
					t.Fatalf("P602: Call of %v, %d from %d: %d, %v", b, off, r, n, e)
				}
			}
		}
	}
}

func TestLastGate(t *testing.T) { // P602
	for gates := range 17 {
		b := br(2, 3, 6, gates)
		for _, r := range []int{4, 5, 6} {
			if gates > 0 {
				if n, e := ring.Call(b, gates-1, r); n != 3 || e != api.OK {
					t.Errorf("P602: Call of the last of %d gates from %d: %d, %v", gates, r, n, e)
				}
			}
			if n, e := ring.Call(b, gates, r); n != 0 || e != api.ErrGate {
				t.Errorf("P602: Call behind the last of %d gates from %d: %d, %v", gates, r, n, e)
			}
		}
		for off := range 16 { // no gate is asked for within the bracket and below it, and none helps above R3
			for r, want := range []int{2, 2, 2, 3} {
				if n, e := ring.Call(b, off, r); n != want || e != api.OK {
					t.Errorf("P602: Call of %v, %d from %d: %d, %v", b, off, r, n, e)
				}
			}
			if n, e := ring.Call(b, off, 7); n != 0 || e != api.ErrGate {
				t.Errorf("P602: Call of %v, %d from 7: %d, %v", b, off, n, e)
			}
		}
	}
}

func TestNoGateRings(t *testing.T) { // P602: R2 and R3 alike, no ring comes through a gate
	for r1 := range 8 {
		for r2 := r1; r2 < 8; r2++ {
			for r := r2 + 1; r < 8; r++ {
				if n, e := ring.Call(br(r1, r2, r2, 16), 0, r); n != 0 || e != api.ErrGate {
					t.Errorf("P602: Call of %d, %d, %d from %d: %d, %v", r1, r2, r2, r, n, e)
				}
			}
		}
	}
}

func TestLesserRing(t *testing.T) { // P604, T4: whatever brackets, rings and offsets
	lesser := 0
	for _, b := range append(brackets(), refused()...) {
		for off := -2; off <= 18; off++ {
			for r := -2; r <= 9; r++ {
				n, e := ring.Call(b, off, r)
				if e != api.OK || n >= r {
					continue
				}
				lesser++
				if off < 0 || off >= b.Gates || r <= b.R2 || r > b.R3 || n != b.R2 {
					t.Fatalf("P604: Call of %v, %d from %d: %d", b, off, r, n)
				}
			}
		}
	}
	if lesser == 0 {
		t.Error("P604: no call tells a lesser ring")
	}
}

func TestCallGoesOnWhereItMayBe(t *testing.T) { // P602, P604: who has called may execute there
	for _, b := range brackets() {
		for off := range 16 {
			for r := range 8 {
				if n, e := ring.Call(b, off, r); e == api.OK && !ring.MayExec(b, n) {
					t.Fatalf("P602: Call of %v, %d from %d: %d, that may not execute", b, off, r, n)
				}
			}
		}
	}
}

func TestRefusedBrackets(t *testing.T) { // P601, P602, P4, P8: the words in their order, since none of them refuses the brackets
	for _, b := range refused() {
		for off := range 16 {
			for r := range 8 {
				want, wantE := 0, api.ErrGate
				if ring.MayExec(b, r) {
					want, wantE = r, api.OK
				} else if r > b.R2 && r <= b.R3 {
					if off < b.Gates {
						want, wantE = b.R2, api.OK
					}
				} else if r < b.R1 {
					want, wantE = b.R1, api.OK
				}
				if n, e := ring.Call(b, off, r); n != want || e != wantE {
					t.Fatalf("P602: Call of %v, %d from %d: %d, %v", b, off, r, n, e)
				}
			}
		}
	}
}

func TestFollowOrders(t *testing.T) { // P603
	for own := -1; own <= 8; own++ {
		for r1 := -1; r1 <= 8; r1++ {
			for r := -1; r <= 8; r++ {
				want := own
				if want < r1 {
					want = r1
				}
				if want < r {
					want = r
				}
				p := api.Pointer{Seg: 3, Off: 11, Ring: own}
				if got := ring.Follow(p, br(r1, 7, 7, 16), r); got != (api.Pointer{Seg: 3, Off: 11, Ring: want}) {
					t.Fatalf("P603: Follow of %v, R1 %d, ring %d: %v", p, r1, r, got)
				}
				if p != (api.Pointer{Seg: 3, Off: 11, Ring: own}) {
					t.Fatalf("P2: Follow has changed its pointer: %v", p)
				}
			}
		}
	}
}

func TestFollowTakesR1Alone(t *testing.T) { // P603: neither R2, R3 nor Gates
	for _, x := range []api.Rings{br(2, 2, 2, 0), br(2, 7, 7, 16), br(2, 3, 7, 5), br(2, 0, 0, -1), br(2, math.MaxInt64, math.MaxInt64, math.MaxInt64), br(2, math.MinInt64, math.MinInt64, math.MinInt64)} {
		if got := ring.Follow(api.Pointer{Seg: 1, Off: 2, Ring: 1}, x, 0); got != (api.Pointer{Seg: 1, Off: 2, Ring: 2}) {
			t.Errorf("P603: Follow of ring 1, %v, ring 0: %v", x, got)
		}
	}
}

func TestFollowWhatever(t *testing.T) { // P603
	numbers := append(far(), 0, 1, 4, 7)
	rnd := rand.New(rand.NewPCG(6, 3))
	pick := func() int { return numbers[rnd.IntN(len(numbers))] }
	for range 20000 {
		p, b, r := api.Pointer{Seg: pick(), Off: pick(), Ring: pick()}, br(pick(), pick(), pick(), pick()), pick()
		got := ring.Follow(p, b, r)
		if got.Seg != p.Seg || got.Off != p.Off {
			t.Fatalf("P603: Follow of %v: %v", p, got)
		}
		if got.Ring < p.Ring || got.Ring < b.R1 || got.Ring < r {
			t.Fatalf("P603: Follow of %v, %v, %d: %v, too small a ring", p, b, r, got)
		}
		if got.Ring != p.Ring && got.Ring != b.R1 && got.Ring != r {
			t.Fatalf("P603: Follow of %v, %v, %d: %v, a ring of none", p, b, r, got)
		}
		if again := ring.Follow(p, b, r); again != got {
			t.Fatalf("P3: Follow of %v, %v, %d: %v, then %v", p, b, r, got, again)
		}
	}
}

func TestWhateverNumbers(t *testing.T) { // P1, P3, P4
	numbers := append(far(), 0, 1, 2, 3, 4, 5, 6, 7)
	rnd := rand.New(rand.NewPCG(6, 1))
	pick := func() int { return numbers[rnd.IntN(len(numbers))] }
	for range 50000 {
		b, off, r := br(pick(), pick(), pick(), pick()), pick(), pick()
		e := ring.Check(b)
		if e != api.OK && e != api.ErrArg {
			t.Fatalf("P601: Check of %v: %v", b, e)
		}
		n, f := ring.Call(b, off, r)
		if f != api.OK && (f != api.ErrGate || n != 0) {
			t.Fatalf("P602, P4: Call of %v, %d from %d: %d, %v", b, off, r, n, f)
		}
		if e == api.OK && f == api.OK && (n < 0 || n > 7) {
			t.Fatalf("P602: Call of %v, %d from %d: %d, no ring", b, off, r, n)
		}
		w, d, x := ring.MayWrite(b, r), ring.MayRead(b, r), ring.MayExec(b, r)
		n2, f2 := ring.Call(b, off, r)
		if ring.Check(b) != e || n2 != n || f2 != f || ring.MayWrite(b, r) != w || ring.MayRead(b, r) != d || ring.MayExec(b, r) != x {
			t.Fatalf("P3: of %v, %d, %d: another answer", b, off, r)
		}
	}
}
