package wal_test

import (
	"bytes"
	"math"
	"math/rand/v2"
	"slices"
	"testing"

	"donjon/api"
	"donjon/disk"
	"donjon/wal"
)

// stripe is a sector whose bytes differ from one to the next, so that a front that was torn shows.
func stripe(x int) []byte {
	b := make([]byte, api.Sector)
	for i := range b {
		b[i] = byte(x*131 + i*7 + 1)
	}
	return b
}

// rig is a log on a disk, and what it must tell: the user's sectors, from the first one on, and the number of commits.
type rig struct {
	d    *disk.Disk
	l    *wal.Log
	want [][]byte
	seq  int
}

func made(t *testing.T, size int) *rig {
	t.Helper()
	d, e := disk.New(size)
	if e != api.OK {
		t.Fatalf("P201: New(%d): %v", size, e)
	}
	r := &rig{d: d}
	for range size - 42 {
		r.want = append(r.want, make([]byte, 128))
	}
	r.open(t)
	return r
}

func (r *rig) open(t *testing.T) {
	t.Helper()
	l, e := wal.Open(r.d)
	if e != api.OK || l == nil {
		t.Fatalf("P301: Open: %v, %v", l, e)
	}
	r.l = l
}

// after is what is wanted behind a commit.
func after(want [][]byte, p []wal.Put) [][]byte {
	next := slices.Clone(want)
	for _, x := range p {
		next[x.N-42] = slices.Clone(x.Data)
	}
	return next
}

func (r *rig) commit(t *testing.T, p ...wal.Put) {
	t.Helper()
	if e := r.l.Commit(p...); e != api.OK {
		t.Fatalf("P302: Commit: %v", e)
	}
	if len(p) > 0 {
		r.want, r.seq = after(r.want, p), r.seq+1
	}
}

// tells says whether a log has just these sectors, and so many commits.
func tells(l *wal.Log, want [][]byte, seq int) bool {
	for i, w := range want {
		if b, e := l.Read(42 + i); e != api.OK || !bytes.Equal(b, w) {
			return false
		}
	}
	_, e := l.Read(42 + len(want))
	return e == api.ErrArg && l.Seq() == seq
}

func (r *rig) holds(t *testing.T, promise string) {
	t.Helper()
	if tells(r.l, r.want, r.seq) {
		return
	}
	for i, w := range r.want {
		if b, e := r.l.Read(42 + i); e != api.OK || !bytes.Equal(b, w) {
			t.Fatalf("%s: Read(%d): %x, %v, not %x", promise, 42+i, b, e, w)
		}
	}
	t.Fatalf("%s: Seq %d, not %d", promise, r.l.Seq(), r.seq)
}

func answers(t *testing.T, promise string, got, want api.Errno) {
	t.Helper()
	if got != want {
		t.Errorf("%s: %v, not %v", promise, got, want)
	}
}

// kill stops the disk there and then.
func kill(d *disk.Disk) {
	d.Stop(1)
	d.Flush()
}

// puts are these sectors, with bytes that x makes.
func puts(x int, numbers ...int) []wal.Put {
	var p []wal.Put
	for i, n := range numbers {
		p = append(p, wal.Put{N: n, Data: stripe(x + i)})
	}
	return p
}

// count is from, from+1, .., so many.
func count(from, n int) []int {
	var out []int
	for i := range n {
		out = append(out, from+i)
	}
	return out
}

// same is so many of one pick.
func same(pick, n int) []int { return slices.Repeat([]int{pick}, n) }

func TestOpenSizes(t *testing.T) { // P301, P4
	if wal.Area != 42 {
		t.Errorf("P301: Area: %d", wal.Area)
	}
	for _, n := range []int{1, 2, 40, 41, 42} {
		d, _ := disk.New(n)
		if l, e := wal.Open(d); l != nil || e != api.ErrArg {
			t.Errorf("P301: %d sectors: %v, %v", n, l, e)
		}
		if d.Ops() != 0 || d.Dead() {
			t.Errorf("P5: %d sectors: %d operations, dead: %v", n, d.Ops(), d.Dead())
		}
	}
	for _, n := range []int{43, 44, 63, 64, 65, 100, 1023, 1024, 1025, 4095, 4096} {
		r := made(t, n)
		r.holds(t, "P301: new")
		r.commit(t, puts(1, n-1)...)
		r.holds(t, "P302: the last one")
		answers(t, "P302: behind the last one", r.l.Commit(puts(1, n)...), api.ErrArg)
		r.open(t)
		r.holds(t, "P301: opened again")
	}
}

func TestOpenOfADiskThatHasStopped(t *testing.T) { // P301, P4
	d, _ := disk.New(60)
	kill(d)
	for range 3 {
		if l, e := wal.Open(d); l != nil || e != api.ErrDead {
			t.Errorf("P301: a new disk that has stopped: %v, %v", l, e)
		}
	}
	r := made(t, 60)
	r.commit(t, puts(1, 42, 59)...)
	kill(r.d)
	if l, e := wal.Open(r.d); l != nil || e != api.ErrDead {
		t.Errorf("P301: it has stopped: %v, %v", l, e)
	}
	r.d.Crash(128, 3)
	r.open(t)
	r.holds(t, "P301: it runs again")
}

// due is a disk whose last commit was cut off where it is known to be done, if there is such a place.
func due(t *testing.T) (*rig, bool) {
	t.Helper()
	for stop := 60; stop > 0; stop-- {
		r := made(t, 60)
		r.commit(t, puts(1, 42, 50, 59)...)
		p := puts(10, 59, 43, 42)
		r.d.Stop(stop)
		if r.l.Commit(p...) != api.ErrDead {
			continue
		}
		r.d.Crash()
		ops := r.d.Ops()
		if wal.Open(r.d); r.d.Ops() == ops {
			continue
		}
		r = made(t, 60)
		r.commit(t, puts(1, 42, 50, 59)...)
		r.d.Stop(stop)
		r.l.Commit(p...)
		r.d.Crash()
		r.want, r.seq = after(r.want, p), 2
		return r, true
	}
	return nil, false
}

func TestOpenThatStops(t *testing.T) { // P301, P303, P4
	seen := 0
	for stop := 1; stop < 60; stop++ {
		r, ok := due(t)
		if !ok {
			t.Fatal("P301: no opening has anything to end, wherever a commit was cut off")
		}
		r.d.Stop(stop)
		l, e := wal.Open(r.d)
		if !r.d.Dead() {
			break
		}
		if l != nil || e != api.ErrDead {
			t.Fatalf("P301: it stops at %d: %v, %v", stop, l, e)
		}
		r.d.Crash(stop, 128-stop, 5*stop)
		r.open(t)
		ops := r.d.Ops()
		r.holds(t, "P303: an opening that was cut off")
		if r.d.Ops() != ops {
			t.Error("P302: Read or Seq writes")
		}
		seen++
	}
	if seen == 0 || seen > 50 {
		t.Errorf("P301: %d operations of an opening", seen)
	}
}

func TestCommitEdges(t *testing.T) { // P302
	r := made(t, 100)
	r.commit(t)
	r.holds(t, "P302: none")
	r.commit(t, puts(1, 42)...)
	r.holds(t, "P302: one, the first one")
	r.commit(t, puts(2, 99)...)
	r.holds(t, "P302: one, the last one")
	r.commit(t, puts(3, count(42, 40)...)...)
	r.holds(t, "P302: MaxTx of them")
	r.commit(t, puts(50, count(60, 40)...)...)
	r.holds(t, "P302: MaxTx of them, up to the last one")
	r.commit(t, puts(70, 99, 42, 98, 43, 70)...)
	r.holds(t, "P302: in no order")
	r.commit(t, puts(80, 70)...)
	r.commit(t, puts(81, 70)...)
	r.commit(t, puts(82, 70)...)
	r.holds(t, "P302: one sector over and over")
	r.commit(t, puts(82, 70)...)
	r.holds(t, "P302: the same bytes again")
	r.commit(t, wal.Put{N: 70, Data: make([]byte, 128)})
	r.holds(t, "P302: noughts")
	r.commit(t, wal.Put{N: 70, Data: bytes.Repeat([]byte{0xFF}, 128)})
	r.holds(t, "P302: all bits")
	one := stripe(7)
	r.commit(t, wal.Put{N: 44, Data: one}, wal.Put{N: 45, Data: one}, wal.Put{N: 46, Data: one})
	r.holds(t, "P302: one slice for several sectors")
	r.d.Crash(1, 2, 3)
	r.open(t)
	r.holds(t, "P302: it lasts")
}

func TestCommitNone(t *testing.T) { // P302, P2
	r := made(t, 60)
	r.commit(t, puts(1, 50)...)
	ops := r.d.Ops()
	for _, p := range [][]wal.Put{nil, {}, puts(1, 42)[:0]} {
		answers(t, "P302: none", r.l.Commit(p...), api.OK)
	}
	r.d.Stop(1)
	answers(t, "P302: none, where the next operation stops", r.l.Commit(), api.OK)
	if r.d.Ops() != ops || r.d.Dead() {
		t.Errorf("P302: none: %d operations", r.d.Ops()-ops)
	}
	r.d.Stop(0)
	r.holds(t, "P302: none, one commit")
	r.open(t)
	r.holds(t, "P302: none, opened again")
	kill(r.d)
	answers(t, "P302: none, on a disk that has stopped", r.l.Commit(), api.OK)
}

// wrong are commits that are refused, whatever the disk does, of one that has 60 sectors.
func wrong() []struct {
	why  string
	p    []wal.Put
	want api.Errno
} {
	good, short, long := stripe(1), stripe(1)[:127], append(stripe(1), 1)
	return []struct {
		why  string
		p    []wal.Put
		want api.Errno
	}{
		{"41", puts(1, count(42, 41)...), api.ErrMany},
		{"41 of one sector", puts(1, slices.Repeat([]int{42}, 41)...), api.ErrMany},
		{"41 of nothing", make([]wal.Put, 41), api.ErrMany},
		{"82", puts(1, count(0, 82)...), api.ErrMany},
		{"the log's last one", puts(1, 41), api.ErrArg},
		{"the log's first ones", puts(1, 0, 1), api.ErrArg},
		{"below the first one", puts(1, -1), api.ErrArg},
		{"behind the last one", puts(1, 60), api.ErrArg},
		{"far behind it", puts(1, 60+4096), api.ErrArg},
		{"modulo 2^16", puts(1, 1<<16+50), api.ErrArg},
		{"modulo 2^32", puts(1, 1<<32+50), api.ErrArg},
		{"the least number", puts(1, math.MinInt), api.ErrArg},
		{"the greatest number", puts(1, math.MaxInt), api.ErrArg},
		{"twice", puts(1, 42, 42), api.ErrArg},
		{"twice, the same bytes", []wal.Put{{N: 50, Data: good}, {N: 50, Data: good}}, api.ErrArg},
		{"twice, far apart", puts(1, 50, 51, 52, 59, 42, 50), api.ErrArg},
		{"a byte too few", []wal.Put{{N: 50, Data: short}}, api.ErrArg},
		{"a byte too many", []wal.Put{{N: 50, Data: long}}, api.ErrArg},
		{"no bytes", []wal.Put{{N: 50}}, api.ErrArg},
		{"two sectors' bytes", []wal.Put{{N: 50, Data: make([]byte, 256)}}, api.ErrArg},
		{"the last one alone", append(puts(1, count(42, 17)...), wal.Put{N: 59, Data: short}), api.ErrArg},
		{"the first one alone", append([]wal.Put{{N: 41, Data: good}}, puts(1, 50, 51)...), api.ErrArg},
		{"all of it", []wal.Put{{N: -1}, {N: -1, Data: long}, {N: 41, Data: short}}, api.ErrArg},
	}
}

func TestRefused(t *testing.T) { // P302, P5, P6
	r := made(t, 60)
	r.commit(t, puts(7, 42, 50, 59)...)
	ops := r.d.Ops()
	for _, x := range wrong() {
		answers(t, "P302: "+x.why, r.l.Commit(x.p...), x.want)
		if r.d.Ops() != ops {
			t.Errorf("P5: %s: %d operations", x.why, r.d.Ops()-ops)
		}
		r.holds(t, "P5: "+x.why)
	}
	r.d.Crash(128, 128, 128)
	r.open(t)
	r.holds(t, "P5: opened again")
	kill(r.d)
	for _, x := range wrong() {
		answers(t, "P6: it has stopped: "+x.why, r.l.Commit(x.p...), x.want)
	}
	r.d.Crash()
	r.open(t)
	r.holds(t, "P5: it had stopped")
}

func TestReadRefused(t *testing.T) { // P302, P4, P6
	r := made(t, 60)
	r.commit(t, puts(1, 42, 59)...)
	numbers := []int{math.MinInt, -42, -1, 0, 1, 2, 40, 41, 60, 61, 4096, 1<<16 + 50, 1<<32 + 50, math.MaxInt}
	for _, n := range numbers {
		if b, e := r.l.Read(n); b != nil || e != api.ErrArg {
			t.Errorf("P302: Read(%d): %x, %v", n, b, e)
		}
	}
	ops := r.d.Ops()
	r.holds(t, "P302: Read")
	if r.d.Ops() != ops {
		t.Error("P302: Read or Seq writes")
	}
	kill(r.d)
	for _, n := range append(numbers, 42, 50, 59) {
		if b, e := r.l.Read(n); b != nil || e != api.ErrDead {
			t.Errorf("P302: it has stopped: Read(%d): %x, %v", n, b, e)
		}
	}
}

func TestCommitOfADiskThatHasStopped(t *testing.T) { // P302, P5
	r := made(t, 60)
	r.commit(t, puts(1, 42, 59)...)
	kill(r.d)
	for range 3 {
		answers(t, "P302: it has stopped", r.l.Commit(puts(5, 42)...), api.ErrDead)
		answers(t, "P302: it has stopped", r.l.Commit(puts(5, count(42, 18)...)...), api.ErrDead)
		if r.l.Seq() != 1 {
			t.Errorf("P302: it had stopped ahead of the commit, Seq: %d", r.l.Seq())
		}
	}
	r.d.Crash(128, 128, 128)
	r.open(t)
	r.holds(t, "P302: it had stopped ahead of the commit")
}

func TestLasts(t *testing.T) { // P302, P303
	for _, picks := range [][]int{nil, {0}, {1, 2, 3}, same(128, 60), same(64, 60), same(-1, 200), {math.MinInt, math.MaxInt}} {
		r := made(t, 90)
		for k := range 12 {
			r.commit(t, puts(20*k, count(42+k, 1+3*k)...)...)
			r.d.Crash(picks...)
			r.open(t)
			r.holds(t, "P302: it lasts")
		}
		r.d.Crash(picks...)
		r.d.Crash(picks...)
		r.open(t)
		r.open(t)
		r.holds(t, "T5: opened twice")
	}
}

func TestSeqIsOfMoreThanAByte(t *testing.T) { // P302, P303
	r := made(t, 44)
	for r.seq < 66000 {
		r.commit(t, wal.Put{N: 42 + r.seq%2, Data: stripe(r.seq)})
		if r.seq%8192 > 1 && r.seq%256 > 1 {
			continue
		}
		r.d.Crash()
		r.open(t)
		r.holds(t, "P302: Seq")
	}
}

func TestSeqOfADiskThatHasStopped(t *testing.T) { // P302, P301
	r := made(t, 60)
	for k := range 5 {
		r.commit(t, puts(k, 42, 43)...)
		r.open(t)
		kill(r.d)
		if n := r.l.Seq(); n != r.seq {
			t.Errorf("P302: it has stopped: Seq %d, not %d", n, r.seq)
		}
		r.d.Crash()
		r.open(t)
	}
}

// cutAt does a commit on a disk that stops at an operation of it, and crashes; it says no where there's none so late.
func (r *rig) cutAt(t *testing.T, p []wal.Put, stop int, picks []int) bool {
	t.Helper()
	r.d.Stop(stop)
	e := r.l.Commit(p...)
	if !r.d.Dead() {
		r.d.Stop(0)
		return false
	}
	if e != api.ErrDead {
		t.Fatalf("P302: it stops at %d: %v", stop, e)
	}
	if _, e := r.l.Read(42); e != api.ErrDead {
		t.Fatalf("P302: it has stopped: Read: %v", e)
	}
	r.d.Crash(picks...)
	return true
}

// is finds out which of the two a log tells, the elder or the newer, and goes on from there.
func (r *rig) is(t *testing.T, p []wal.Put, where ...any) {
	t.Helper()
	next := after(r.want, p)
	switch {
	case tells(r.l, r.want, r.seq):
	case tells(r.l, next, r.seq+1):
		r.want, r.seq = next, r.seq+1
	default:
		t.Fatalf("P303: neither all of it nor nothing, Seq %d beside %d: %v", r.l.Seq(), r.seq, where)
	}
}

// goesOn: what is open does the next commits, and they last.
func (r *rig) goesOn(t *testing.T) {
	t.Helper()
	r.holds(t, "P303: told twice")
	r.commit(t, puts(201, 42, 44)...)
	r.holds(t, "P302: behind what was cut off")
	r.d.Crash(128, 1)
	r.open(t)
	r.holds(t, "P303: behind what was cut off")
}

// begun is a disk with two commits, one of them of the sectors that are cut off next.
func begun(t *testing.T, size int) *rig {
	t.Helper()
	r := made(t, size)
	r.commit(t, puts(1, 42, 43, size-1)...)
	r.commit(t, puts(5, 44, 42)...)
	return r
}

func TestCutsWithEveryFront(t *testing.T) { // P303
	p := puts(9, 47, 42, 43)
	for pick := range 129 {
		for stop := 1; ; stop++ {
			r := begun(t, 48)
			if !r.cutAt(t, p, stop, same(pick, 48)) {
				r.is(t, p)
				if r.seq != 3 || stop < 5 {
					t.Fatalf("P302: %d operations, Seq %d", stop-1, r.seq)
				}
				break
			}
			r.open(t)
			r.is(t, p, stop, pick)
			r.goesOn(t)
		}
	}
}

// TestCutsWhereSeqCarries: several bytes of the number change, and a front keeps some of them.
func TestCutsWhereSeqCarries(t *testing.T) { // P303
	p := puts(9, 47, 42)
	for _, pick := range []int{0, 1, 2, 3, 4, 5, 7, 8, 9, 10, 16, 64, 127, 128} {
		for stop := 1; ; stop++ {
			r := made(t, 48)
			for r.seq < 255 {
				r.commit(t, puts(r.seq, 42+r.seq%6)...)
			}
			if !r.cutAt(t, p, stop, same(pick, 48)) {
				break
			}
			for at := 1; r.openCut(t, at, same(pick, 48)); at++ {
			}
			r.is(t, p, stop, pick)
			r.goesOn(t)
		}
	}
}

// fronts are rows of picks: none, some, all of a sector's bytes, by turns; fewer and more than there are sectors.
func fronts() [][]int {
	var out [][]int
	for _, few := range []int{1, 2, 3, 5, 41} {
		out = append(out, same(128, few))
	}
	r := rand.New(rand.NewPCG(3, 3))
	for i := range 40 {
		var picks []int
		for range 1 + i*3 {
			picks = append(picks, []int{0, 128, r.IntN(129), r.IntN(20), -r.IntN(20), 129 * r.IntN(9)}[r.IntN(6)])
		}
		out = append(out, picks)
	}
	for k := range 6 { // one sector alone is kept, or lost
		one, other := make([]int, 8), same(128, 8)
		one[k], other[k] = 128, 0
		out = append(out, one, other)
	}
	return append(out, nil)
}

func TestCutsOfAllSizes(t *testing.T) { // P303
	for _, n := range []int{1, 2, 7, 40} {
		p := puts(9, count(43, n)...)
		slices.Reverse(p)
		for stop, more := 1, true; more; stop++ {
			for i, picks := range fronts() {
				r := begun(t, 84)
				if more = r.cutAt(t, p, stop, picks); !more {
					break
				}
				r.open(t)
				r.is(t, p, n, stop, i)
				r.goesOn(t)
			}
		}
	}
}

// openCut opens on a disk that stops at an operation of it, and crashes; it says no where there's none so late, and the log is open.
func (r *rig) openCut(t *testing.T, stop int, picks []int) bool {
	t.Helper()
	r.d.Stop(stop)
	l, e := wal.Open(r.d)
	if !r.d.Dead() {
		r.d.Stop(0)
		if r.l = l; e != api.OK {
			t.Fatalf("P301: %v", e)
		}
		return false
	}
	if l != nil || e != api.ErrDead {
		t.Fatalf("P301: it stops at %d: %v, %v", stop, l, e)
	}
	r.d.Crash(picks...)
	return true
}

func TestOpeningsCutOverAndOver(t *testing.T) { // P303, P301
	p := puts(9, 47, 42, 43)
	opened := 0
	for i, picks := range fronts() {
		for stop := 1; stop < 40; stop++ {
			for first := 1; first < 12; first++ {
				r := begun(t, 48)
				if !r.cutAt(t, p, stop, picks) {
					break
				}
				for again := range 6 {
					at := 1 + (first+again*(1+i))%11
					if again == 0 {
						at = first
					}
					if !r.openCut(t, at, picks[min(again, len(picks)):]) {
						break
					}
					opened++
				}
				r.open(t)
				r.is(t, p, stop, first, i)
				r.goesOn(t)
			}
		}
	}
	t.Log("openings that were cut off:", opened)
}

func TestOpeningsCutWithEveryFront(t *testing.T) { // P303
	p := puts(9, 47, 42, 43)
	for pick := range 129 {
		for stop := 1; stop < 40; stop++ {
			r := begun(t, 48)
			if !r.cutAt(t, p, stop, same(128, 48)) {
				break
			}
			for at := 1; r.openCut(t, at, same(pick, 48)); at++ {
			}
			r.is(t, p, stop, pick)
			r.goesOn(t)
		}
	}
}

// TestWhatWasToldStays: once an opening has told one of the two, later crashes and openings tell no other one.
func TestWhatWasToldStays(t *testing.T) { // P303, T5
	p := puts(9, 47, 42, 43)
	for i, picks := range fronts() {
		for stop := 1; stop < 40; stop++ {
			r := begun(t, 48)
			if !r.cutAt(t, p, stop, picks) {
				break
			}
			r.open(t)
			r.is(t, p, stop, i)
			for range 3 {
				r.d.Crash(picks...)
				r.open(t)
				r.holds(t, "T5: opened twice")
			}
		}
	}
}

// TestCommitsAreCutInARow: one commit after the other is cut off, so that the log's sectors hold pieces of many.
func TestCommitsAreCutInARow(t *testing.T) { // P303
	for i, picks := range fronts() {
		r := begun(t, 60)
		for k := range 60 {
			p := puts(3*k, count(42+k%7, 1+k%11)...)
			if !r.cutAt(t, p, 1+k*(i+3)%35, picks) {
				r.want, r.seq = after(r.want, p), r.seq+1
				r.holds(t, "P302")
				continue
			}
			r.open(t)
			r.is(t, p, k, i)
			r.holds(t, "P303: cut in a row")
		}
	}
}

func TestTheLogGoesOnBehindACrash(t *testing.T) { // P302: a log whose disk runs again is a log
	p, q := puts(9, 47, 42, 43), puts(77, 43, 46)
	for i, picks := range fronts() {
		for ask := range 4 {
			for stop := 1; stop < 40; stop++ {
				r := begun(t, 48)
				if !r.cutAt(t, p, stop, picks) {
					break
				}
				switch ask { // what is called first
				case 0:
					r.is(t, p, stop, i)
				case 1:
					n := r.l.Seq()
					if r.is(t, p, stop, i); n != r.seq {
						t.Fatalf("P302: Seq %d, then %d", n, r.seq)
					}
				case 2:
					if b, e := r.l.Read(46); e != api.OK || !bytes.Equal(b, r.want[4]) {
						t.Fatalf("P302: beside what was cut off: %x, %v", b, e)
					}
					r.open(t)
					r.is(t, p, stop, i)
				case 3:
					r.next(t, p, q)
				}
				r.goesOn(t)
			}
		}
	}
	r := begun(t, 48)
	kill(r.d)
	r.d.Crash(128, 128)
	r.holds(t, "P302: nothing was under way")
	r.goesOn(t)
}

// next does one commit more behind one that was cut off; Seq tells whether that one was done.
func (r *rig) next(t *testing.T, cut, p []wal.Put) {
	t.Helper()
	answers(t, "P302: behind what was cut off", r.l.Commit(p...), api.OK)
	if r.l.Seq() == r.seq+2 {
		r.want, r.seq = after(r.want, cut), r.seq+1
	}
	r.want, r.seq = after(r.want, p), r.seq+1
	r.holds(t, "P302: behind what was cut off")
}

// own are the bytes that the log's own sectors have on a disk that runs.
func own(t *testing.T, d *disk.Disk) [][]byte {
	t.Helper()
	var out [][]byte
	for n := range 42 {
		b, e := d.Read(n)
		if e != api.OK {
			t.Fatalf("P202: %v", e)
		}
		out = append(out, b)
	}
	return out
}

// pasts are all different bytes that the log's own sectors have, wherever a row of commits crashes.
func pasts(t *testing.T) [][]byte {
	t.Helper()
	var out [][]byte
	keep := func(all [][]byte) {
		for _, b := range all {
			if !slices.ContainsFunc(out, func(o []byte) bool { return bytes.Equal(o, b) }) {
				out = append(out, b)
			}
		}
	}
	for stop := 1; stop < 40; stop++ {
		for _, pick := range []int{0, 1, 5, 9, 40, 128} {
			r := begun(t, 48)
			if !r.cutAt(t, puts(9, 47, 42, 43), stop, same(pick, 48)) {
				keep(own(t, r.d))
				break
			}
			keep(own(t, r.d))
		}
	}
	return out
}

func TestWhateverTheBytesAre(t *testing.T) { // P303
	all := pasts(t)
	t.Log("sectors of the log's own:", len(all))
	for i := range all {
		for _, pick := range []int{0, 3, 9, 128} {
			for stop := 1; stop < 40; stop++ {
				r := begun(t, 48)
				r.commit(t, wal.Put{N: 42, Data: all[i]}, wal.Put{N: 46, Data: all[len(all)-1-i]})
				p := []wal.Put{{N: 43, Data: all[i]}, {N: 42, Data: all[(i+1)%len(all)]}, {N: 47, Data: all[(i+7)%len(all)]}}
				if !r.cutAt(t, p, stop, []int{pick, 128, pick, 128 - pick}) {
					break
				}
				r.openCut(t, 1+stop%5, same(pick, 9))
				r.open(t)
				r.is(t, p, stop, pick, i)
				r.goesOn(t)
			}
		}
	}
}

// TestTheBytesThatTheLogHas: what is committed is what the log's sectors hold at that time, all of them, in order and turned round.
func TestTheBytesThatTheLogHas(t *testing.T) { // P303
	for turn := range 42 {
		for stop := 1; stop < 100; stop++ {
			r := begun(t, 90)
			var p []wal.Put
			for round := range 3 {
				now := own(t, r.d)
				p = nil
				for i := range 40 {
					p = append(p, wal.Put{N: 42 + (i+round)%48, Data: now[(i+turn)%42]})
				}
				if round < 2 {
					r.commit(t, p...)
				}
			}
			if !r.cutAt(t, p, stop, same(stop*(turn+1), 7+turn*2)) {
				break
			}
			r.open(t)
			r.is(t, p, stop, turn)
			r.goesOn(t)
		}
	}
}

// turn does one thing of a row.
func (r *rig) turn(t *testing.T, g *rand.Rand, all [][]byte) {
	t.Helper()
	picks := make([]int, g.IntN(12))
	for i := range picks {
		picks[i] = g.IntN(600) - 300
	}
	var p []wal.Put
	for _, n := range g.Perm(len(r.want))[:g.IntN(len(r.want))] {
		data := stripe(g.IntN(256))
		if g.IntN(3) == 0 {
			data = all[g.IntN(len(all))]
		}
		p = append(p, wal.Put{N: 42 + n, Data: data})
	}
	switch g.IntN(4) {
	case 0:
		r.d.Crash(picks...)
		r.open(t)
	case 1:
		p = append(p, wal.Put{N: 42 + g.IntN(len(r.want)), Data: stripe(1)[g.IntN(2):]}, wal.Put{N: g.IntN(42)})
		answers(t, "P302: a row: refused", r.l.Commit(p...), api.ErrArg)
	case 2:
		r.commit(t, p...)
	case 3:
		if !r.cutAt(t, p, 1+g.IntN(2*len(p)+10), picks) {
			if len(p) > 0 {
				r.want, r.seq = after(r.want, p), r.seq+1
			}
			return
		}
		for r.openCut(t, 1+g.IntN(len(p)+4), picks) {
		}
		r.is(t, p)
	}
}

func TestRows(t *testing.T) { // P301 to P303
	all := pasts(t)
	for seed := range uint64(300) {
		g := rand.New(rand.NewPCG(seed, 3))
		r := made(t, 43+g.IntN(20))
		for range 40 {
			r.turn(t, g, all)
			r.holds(t, "P302: a row")
			if t.Failed() {
				t.Fatalf("row %d", seed)
			}
		}
	}
}

func TestNobodyElses(t *testing.T) { // P2
	r := made(t, 60)
	room := append(stripe(1), 1, 2, 3)
	p := append(puts(5, 50, 51), wal.Put{N: 7, Data: []byte{7}})
	p[0].Data = room[:128]
	r.commit(t, p[:2]...)
	if !bytes.Equal(room, append(stripe(1), 1, 2, 3)) || p[0].N != 50 || len(p[0].Data) != 128 || &p[0].Data[0] != &room[0] || p[1].N != 51 || !bytes.Equal(p[1].Data, stripe(6)) || p[2].N != 7 || !bytes.Equal(p[2].Data, []byte{7}) {
		t.Error("P2: Commit has changed what it was given, or its spare room")
	}
	clear(room)
	clear(p[1].Data)
	clear(p)
	r.holds(t, "P2: what was committed is not kept")
	r.open(t)
	r.holds(t, "P2: what was committed is not kept, opened again")

	a, _ := r.l.Read(50)
	b, _ := r.l.Read(50)
	full := a[:cap(a)]
	for i := range full {
		full[i] = 0xEE
	}
	if !bytes.Equal(b, stripe(1)) {
		t.Error("P2: two answers share memory")
	}
	r.holds(t, "P2: an answer is new memory")
	r.commit(t, puts(9, 50, 51)...)
	if !bytes.Equal(b, stripe(1)) {
		t.Error("P2: what was answered changes with the log")
	}
	r.commit(t, wal.Put{N: 52, Data: b})
	clear(b)
	r.holds(t, "P2: an answer is handed in")

	for _, x := range wrong() {
		before := slices.Clone(x.p)
		r.l.Commit(x.p...)
		for i := range before {
			if x.p[i].N != before[i].N || len(x.p[i].Data) != len(before[i].Data) {
				t.Errorf("P2: %s: refused, it has changed what it was given", x.why)
			}
		}
	}
}

func TestNothingOfWhatWasCutOffIsKept(t *testing.T) { // P2, P303
	for stop := 1; stop < 40; stop++ {
		r := begun(t, 48)
		p := puts(9, 47, 42, 43)
		r.d.Stop(stop)
		r.l.Commit(p...)
		given := puts(9, 47, 42, 43)
		for _, x := range p {
			clear(x.Data)
		}
		r.d.Crash(same(128, 9)...)
		r.is(t, given, stop)
		r.open(t)
		r.holds(t, "P2: it was kept till the log went on")
	}
}

func TestTwoLogs(t *testing.T) { // P7
	a, b := made(t, 60), made(t, 50)
	a.commit(t, puts(1, 42, 49)...)
	b.holds(t, "P7: committed on the other one")
	b.commit(t, puts(2, 49, 42)...)
	b.commit(t, puts(3, 43)...)
	a.holds(t, "P7: committed on the other one")
	p := puts(30, 42, 43, 44)
	for stop := 1; stop < 40; stop++ {
		a.d.Stop(stop)
		a.l.Commit(p...)
		dead := a.d.Dead()
		b.commit(t, puts(stop, 42, 45)...)
		b.holds(t, "P7: stopped on the other one")
		if a.d.Dead() != dead {
			t.Error("P7: it stops, or runs, by the other one")
		}
		b.d.Crash(128)
		a.d.Crash(128, 1, 128)
		a.open(t)
		a.is(t, p, stop)
		b.holds(t, "P7: opened on the other one")
		if !dead {
			break
		}
	}
	answers(t, "P7: the other one's size", b.l.Commit(puts(1, 50)...), api.ErrArg)
	a.commit(t, puts(1, 50)...)
	a.holds(t, "P7")
}

func TestTheSameCallsAnswerTheSame(t *testing.T) { // P3
	row := func() []byte {
		r := made(t, 60)
		var said []byte
		for k := range 60 {
			r.d.Stop(k)
			r.l.Commit(puts(k, count(42+k%5, 1+k%13)...)...)
			r.d.Crash(k, 128, 3*k, 9)
			r.open(t)
			said = append(said, byte(r.l.Seq()), byte(r.d.Ops()), byte(r.d.Ops()>>8))
			for n := range 18 {
				b, _ := r.l.Read(42 + n)
				said = append(said, b...)
			}
		}
		return said
	}
	first := row()
	for range 10 {
		if !bytes.Equal(row(), first) {
			t.Fatal("P3: the same calls answered otherwise")
		}
	}
}

// ends uses a log on a disk that was no log's.
func ends(t *testing.T, d *disk.Disk) {
	t.Helper()
	l, e := wal.Open(d)
	if e != api.OK {
		if l != nil {
			t.Errorf("P4: %v, %v", l, e)
		}
		return
	}
	l.Seq()
	l.Read(50)
	l.Commit(puts(1, 50)...)
}

func TestADiskThatWasNoLogs(t *testing.T) { // P1: what it answers is nobody's promise, but it ends, and doesn't panic
	for seed := range uint64(300) {
		g := rand.New(rand.NewPCG(seed, 5))
		d, _ := disk.New(60)
		for n := range 60 {
			b, top := make([]byte, 128), []int{2, 3, 60, 256}[g.IntN(4)]
			for i := range b {
				b[i] = byte(g.IntN(top))
			}
			d.Write(n, b)
		}
		d.Flush()
		ends(t, d)
	}
	for fill := range byte(3) { // all bytes the same, but one
		for at := range 42 * 128 {
			for _, x := range []byte{1, 41, 255} {
				if at%128 > 20 {
					continue
				}
				d, _ := disk.New(600)
				for n := range 42 {
					b := bytes.Repeat([]byte{fill}, 128)
					if n == at/128 {
						b[at%128] = x
					}
					d.Write(n, b)
				}
				d.Flush()
				ends(t, d)
			}
		}
	}
}
