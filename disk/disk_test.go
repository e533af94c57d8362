package disk_test

import (
	"bytes"
	"math"
	"math/rand/v2"
	"slices"
	"testing"

	"donjon/api"
	"donjon/disk"
)

// made is a new disk; what refuses it is told by TestNew.
func made(t *testing.T, n int) *disk.Disk {
	t.Helper()
	d, e := disk.New(n)
	if e != api.OK || d == nil {
		t.Fatalf("P201: New(%d): %v", n, e)
	}
	return d
}

// stripe is a sector no two bytes of which, side by side, are the same, so that a front that is off by one shows.
func stripe(x int) []byte {
	b := make([]byte, api.Sector)
	for i := range b {
		b[i] = byte(x*131 + i*7 + 1)
	}
	return b
}

// mix is a front of k newer bytes and the rest of the elder ones, laid byte by byte.
func mix(newer, elder []byte, k int) []byte {
	var b []byte
	for i := range elder {
		if i < k {
			b = append(b, newer[i])
		} else {
			b = append(b, elder[i])
		}
	}
	return b
}

func holds(t *testing.T, promise string, d *disk.Disk, n int, want []byte) {
	t.Helper()
	if b, e := d.Read(n); e != api.OK || !bytes.Equal(b, want) {
		t.Errorf("%s: Read(%d): %x, %v, not %x", promise, n, b, e, want)
	}
}

func answers(t *testing.T, promise string, got, want api.Errno) {
	t.Helper()
	if got != want {
		t.Errorf("%s: %v, not %v", promise, got, want)
	}
}

func counts(t *testing.T, promise string, got, want int) {
	t.Helper()
	if got != want {
		t.Errorf("%s: %d, not %d", promise, got, want)
	}
}

func TestNew(t *testing.T) { // P201, P4
	for _, n := range []int{math.MinInt, -4096, -1, 0, 4097, 4098, 1 << 32, 1<<32 + 1, math.MaxInt} {
		if d, e := disk.New(n); e != api.ErrArg || d != nil {
			t.Errorf("P201: New(%d): %v, %v", n, d, e)
		}
	}
	for _, n := range []int{1, 2, 42, 4095, 4096} {
		d := made(t, n)
		for i := range n {
			holds(t, "P201", d, i, make([]byte, 128))
		}
		if b, e := d.Read(n); e != api.ErrArg || b != nil {
			t.Errorf("P201: %d sectors, Read(%d): %x, %v", n, n, b, e)
		}
		if d.Ops() != 0 || d.Dead() {
			t.Errorf("P201: %d sectors: %d operations, dead: %v", n, d.Ops(), d.Dead())
		}
		counts(t, "P201: new, the buffer", d.Crash(), 0)
	}
}

func TestReadTellsWhatWasWrittenLast(t *testing.T) { // P202
	for _, n := range []int{1, 5, 4096} {
		d := made(t, n)
		for _, i := range []int{0, n / 2, n - 1} {
			for x := range 3 {
				answers(t, "P202: Write", d.Write(i, stripe(x)), api.OK)
				holds(t, "P202", d, i, stripe(x))
			}
			answers(t, "P202: Flush", d.Flush(), api.OK)
			holds(t, "P202: flushed", d, i, stripe(2))
			answers(t, "P202: Write", d.Write(i, stripe(9)), api.OK)
			holds(t, "P202: written over what was flushed", d, i, stripe(9))
		}
	}
	d := made(t, 5)
	d.Write(3, stripe(1))
	for _, i := range []int{0, 1, 2, 4} {
		holds(t, "P202: beside what was written", d, i, make([]byte, 128))
	}
}

func TestRefused(t *testing.T) { // P202, P4, P5
	d := made(t, 5)
	d.Write(0, stripe(1))
	d.Flush()
	d.Write(4, stripe(2))
	for _, n := range []int{math.MinInt, -5, -1, 5, 6, 4096, 1 << 32, math.MaxInt} {
		if b, e := d.Read(n); e != api.ErrArg || b != nil {
			t.Errorf("P202: Read(%d): %x, %v", n, b, e)
		}
		answers(t, "P202: Write where there is no sector", d.Write(n, stripe(3)), api.ErrArg)
		answers(t, "P202: Write of nothing, nowhere", d.Write(n, nil), api.ErrArg)
	}
	for _, k := range []int{0, 1, 127, 129, 256, 1 << 16} {
		for _, n := range []int{0, 4} {
			answers(t, "P202: Write of bytes that are no sector", d.Write(n, make([]byte, k)), api.ErrArg)
		}
	}
	answers(t, "P202: Write(nil)", d.Write(0, nil), api.ErrArg)
	counts(t, "P202: operations", d.Ops(), 3)
	holds(t, "P5", d, 0, stripe(1))
	holds(t, "P5", d, 4, stripe(2))
	counts(t, "P5: the buffer", d.Crash(), 1)
}

func TestOps(t *testing.T) { // P202
	d := made(t, 3)
	for i := range 10 {
		d.Write(i%3, stripe(i))
		counts(t, "P202: Write", d.Ops(), 2*i+1)
		d.Flush()
		counts(t, "P202: Flush", d.Ops(), 2*i+2)
		d.Read(i % 3)
		d.Read(3)
		d.Write(3, stripe(0))
		d.Write(0, nil)
		d.Stop(0)
		d.Dead()
		d.Crash(i)
		counts(t, "P202: what is no Write and no Flush, or is refused", d.Ops(), 2*i+2)
	}
	d.Flush()
	d.Flush()
	counts(t, "P202: a Flush of nothing", d.Ops(), 22)
}

// do does the i-th operation of a row: two Writes, a Flush, and so on.
func do(d *disk.Disk, i int) api.Errno {
	if i%3 == 2 {
		return d.Flush()
	}
	return d.Write(i%4, stripe(i))
}

func TestStop(t *testing.T) { // P203
	for begun := range 4 {
		for n := 1; n < 12; n++ {
			d := made(t, 4)
			for i := range begun {
				do(d, i)
			}
			d.Stop(n)
			for i := range n - 1 {
				answers(t, "P203: ahead of the stop", do(d, begun+i), api.OK)
				if d.Dead() {
					t.Errorf("P203: Stop(%d): dead at %d", n, i+1)
				}
			}
			answers(t, "P203: at the stop", do(d, begun+n-1), api.ErrDead)
			if !d.Dead() {
				t.Errorf("P203: Stop(%d): not dead", n)
			}
			counts(t, "P203: operations", d.Ops(), begun+n-1)
		}
	}
}

func TestStopIsNotDone(t *testing.T) { // P203, P202
	d := made(t, 3)
	d.Write(1, stripe(1))
	d.Stop(1)
	answers(t, "P203: Flush", d.Flush(), api.ErrDead)
	counts(t, "P203: a Flush that was not done leaves the buffer", d.Crash(), 1)
	holds(t, "P203", d, 1, make([]byte, 128))

	d.Write(1, stripe(2))
	d.Stop(1)
	answers(t, "P203: Write", d.Write(1, stripe(3)), api.ErrDead)
	answers(t, "P203: Write", d.Write(2, stripe(3)), api.ErrDead)
	counts(t, "P203: Writes that were not done", d.Crash(128, 128), 1)
	holds(t, "P203", d, 1, stripe(2))
	holds(t, "P203", d, 2, make([]byte, 128))
}

func TestStopCountsWhatWouldBeDone(t *testing.T) { // P203
	d := made(t, 3)
	d.Stop(2)
	for range 5 {
		answers(t, "P203: refused", d.Write(3, stripe(1)), api.ErrArg)
		answers(t, "P203: refused", d.Write(-1, stripe(1)), api.ErrArg)
		answers(t, "P203: refused", d.Write(0, stripe(1)[1:]), api.ErrArg)
		d.Read(0)
		d.Read(7)
		d.Ops()
		d.Dead()
	}
	answers(t, "P203: the first", d.Write(0, stripe(1)), api.OK)
	for range 3 {
		answers(t, "P203: refused, where the next one stops", d.Write(3, stripe(1)), api.ErrArg)
	}
	holds(t, "P203: read, where the next one stops", d, 0, stripe(1))
	if d.Dead() {
		t.Error("P203: what is refused has stopped the disk")
	}
	answers(t, "P203: the second", d.Write(0, stripe(2)), api.ErrDead)
}

func TestStopTakenBack(t *testing.T) { // P203
	for _, n := range []int{0, -1, -2, -1000, math.MinInt} {
		d := made(t, 4)
		d.Stop(1)
		d.Stop(n)
		for i := range 10 {
			answers(t, "P203: taken back", do(d, i), api.OK)
		}
		d.Stop(n)
		d.Stop(3)
		d.Flush()
		d.Stop(n)
		for i := range 10 {
			answers(t, "P203: taken back, under way", do(d, i), api.OK)
		}
	}
	d := made(t, 4)
	d.Stop(1)
	d.Stop(3) // the later word holds, and counts from where it was said
	answers(t, "P203", d.Flush(), api.OK)
	d.Stop(2)
	answers(t, "P203", d.Flush(), api.OK)
	answers(t, "P203", d.Flush(), api.ErrDead)

	d = made(t, 4)
	d.Stop(math.MaxInt)
	for i := range 100 {
		answers(t, "P203: far off", do(d, i), api.OK)
	}
}

func TestDead(t *testing.T) { // P202, P203, P4, P5
	d := made(t, 3)
	d.Write(0, stripe(1))
	d.Flush()
	d.Write(1, stripe(2))
	d.Stop(1)
	d.Flush()
	for _, stop := range []int{5, 0, 1, -1} { // a stop says nothing of a disk that has stopped, and nothing for when it runs again
		d.Stop(stop)
		for _, n := range []int{0, 1, 2, 3, -1} {
			if b, e := d.Read(n); e != api.ErrDead || b != nil {
				t.Errorf("P202: dead: Read(%d): %x, %v", n, b, e)
			}
			answers(t, "P202: dead: Write", d.Write(n, stripe(3)), api.ErrDead)
			answers(t, "P202: dead: Write(nil)", d.Write(n, nil), api.ErrDead)
		}
		answers(t, "P202: dead: Flush", d.Flush(), api.ErrDead)
		if !d.Dead() {
			t.Error("P202: it has stopped")
		}
		counts(t, "P202: dead: operations", d.Ops(), 3)
	}
	d.Stop(1)
	counts(t, "P204: dead, the buffer", d.Crash(64), 1)
	if d.Dead() {
		t.Error("P204: dead behind a crash")
	}
	holds(t, "P204", d, 0, stripe(1))
	holds(t, "P204", d, 1, mix(stripe(2), make([]byte, 128), 64))
	holds(t, "P204", d, 2, make([]byte, 128))
	for range 10 {
		answers(t, "P204: it will not stop", d.Flush(), api.OK)
	}
	counts(t, "P202: operations, behind a crash", d.Ops(), 13)
}

func TestCrashTakesTheStopBack(t *testing.T) { // P204, P203
	for n := 1; n < 4; n++ {
		d := made(t, 4)
		d.Stop(n)
		d.Crash()
		for i := range 10 {
			answers(t, "P204: it will not stop", do(d, i), api.OK)
		}
		d.Stop(n)
		for i := range n {
			want := api.OK
			if i == n-1 {
				want = api.ErrDead
			}
			answers(t, "P203: a stop behind a crash", do(d, i), want)
		}
	}
}

func TestCrashKeepsAFront(t *testing.T) { // P204, P205, P9
	picks := []int{math.MinInt, math.MinInt + 1, -1 << 40, -258, -257, 258, 259, 1000, 1 << 31, 1 << 32, 1 << 40, math.MaxInt - 1, math.MaxInt}
	for p := -131; p <= 260; p++ {
		picks = append(picks, p)
	}
	for _, p := range picks {
		k := p % 129
		if k < 0 {
			k += 129
		}
		for _, flushed := range []bool{false, true} {
			d := made(t, 2)
			elder := make([]byte, 128)
			if flushed {
				elder = stripe(1)
				d.Write(1, elder)
				d.Flush()
			}
			d.Write(1, stripe(2))
			counts(t, "P204: the buffer", d.Crash(p), 1)
			holds(t, "P204: what the pick keeps", d, 1, mix(stripe(2), elder, k))
			holds(t, "P204: beside it", d, 0, make([]byte, 128))
			counts(t, "P204: the buffer, behind a crash", d.Crash(p+1), 0)
			holds(t, "P204: behind two crashes", d, 1, mix(stripe(2), elder, k))
		}
	}
}

func TestCrashPicksByNumbers(t *testing.T) { // P204
	orders := [][]int{{1, 3, 4, 8, 11}, {11, 8, 4, 3, 1}, {4, 11, 1, 8, 3}, {8, 8, 1, 11, 3, 1, 4, 3}}
	picks := []int{3, 128, 0, 60, 127, 9, 77} // two more than there are sectors in the buffer
	for _, order := range orders {
		for k := range len(picks) + 1 {
			d := made(t, 12)
			for i := range 12 {
				d.Write(i, stripe(i))
			}
			d.Flush()
			for _, n := range order {
				d.Write(n, stripe(100+n))
			}
			counts(t, "P204: the buffer", d.Crash(picks[:k]...), 5)
			next := 0
			for i := range 12 {
				keep := 0
				if slices.Contains(order, i) {
					if next < k {
						keep = picks[next]
					}
					next++
				}
				holds(t, "P204: by numbers", d, i, mix(stripe(100+i), stripe(i), keep))
			}
		}
	}
}

func TestCrashOfAllSectors(t *testing.T) { // P204
	const n = 4096
	d := made(t, n)
	var picks []int
	for i := range n {
		d.Write(n-1-i, stripe(n-1-i))
		picks = append(picks, i*37)
	}
	counts(t, "P204: the buffer", d.Crash(picks...), n)
	for i := range n {
		holds(t, "P204", d, i, mix(stripe(i), make([]byte, 128), i*37%129))
	}
}

func TestCrashOfASectorThatWasWrittenOften(t *testing.T) { // P204, P205
	d := made(t, 3)
	d.Write(1, stripe(1))
	d.Flush()
	for x := 2; x < 6; x++ {
		d.Write(1, stripe(x))
	}
	counts(t, "P204: written often it is one sector", d.Crash(50), 1)
	holds(t, "P204: the last ones, over the platter's", d, 1, mix(stripe(5), stripe(1), 50))

	d.Write(1, stripe(7)) // the next crash works on what this one has left
	d.Write(2, stripe(8))
	counts(t, "P204", d.Crash(20, 128), 2)
	holds(t, "P204: two crashes", d, 1, mix(stripe(7), mix(stripe(5), stripe(1), 50), 20))
	holds(t, "P204: two crashes", d, 2, stripe(8))

	d.Write(1, stripe(9)) // the bytes being the same, it is in the buffer nevertheless
	d.Flush()
	d.Write(1, stripe(9))
	counts(t, "P204: the same bytes", d.Crash(3), 1)
	holds(t, "P204: the same bytes", d, 1, stripe(9))
}

func TestWhatWasFlushedStays(t *testing.T) { // P205, P202
	d := made(t, 6)
	for i := range 6 {
		d.Write(i, stripe(i))
	}
	answers(t, "P205: Flush", d.Flush(), api.OK)
	counts(t, "P205: flushed, the buffer", d.Crash(0, 1, 2, 3), 0)
	for i := range 6 {
		holds(t, "P205: what was flushed", d, i, stripe(i))
	}
	d.Stop(2)
	d.Write(0, stripe(50))
	d.Flush()
	counts(t, "P205: the Flush was not done", d.Crash(), 1)
	holds(t, "P205: no byte of what was not flushed", d, 0, stripe(0))
}

// model is the plain disk: for each sector the bytes on the platter, and, where it is in the buffer, those written last.
type model struct {
	platter, last [][]byte
	ops, stop     int
	dead          bool
}

func (m *model) goes() bool {
	if m.stop--; m.stop == 0 {
		m.dead = true
		return false
	}
	m.ops++
	return true
}

func (m *model) write(n int, b []byte) api.Errno {
	if m.dead {
		return api.ErrDead
	}
	if n < 0 || n >= len(m.platter) || len(b) != 128 {
		return api.ErrArg
	}
	if !m.goes() {
		return api.ErrDead
	}
	m.last[n] = slices.Clone(b)
	return api.OK
}

func (m *model) flush() api.Errno {
	if m.dead || !m.goes() {
		return api.ErrDead
	}
	for n, b := range m.last {
		if b != nil {
			m.platter[n], m.last[n] = b, nil
		}
	}
	return api.OK
}

func (m *model) crash(picks []int) int {
	in := 0
	for n, b := range m.last {
		if b == nil {
			continue
		}
		k := 0
		if in < len(picks) {
			k = (picks[in]%129 + 129) % 129
		}
		m.platter[n], m.last[n] = mix(b, m.platter[n], k), nil
		in++
	}
	m.stop, m.dead = 0, false
	return in
}

func (m *model) newest(n int) []byte {
	if m.last[n] != nil {
		return m.last[n]
	}
	return m.platter[n]
}

// turn does one thing, the same to both.
func turn(t *testing.T, r *rand.Rand, d *disk.Disk, m *model) {
	t.Helper()
	switch r.IntN(10) {
	case 0:
		answers(t, "P202: a row: Flush", d.Flush(), m.flush())
	case 1:
		n := r.IntN(12) - 3
		d.Stop(n)
		m.stop = max(n, 0)
	case 2:
		picks := make([]int, r.IntN(7))
		for i := range picks {
			picks[i] = r.IntN(600) - 300
		}
		counts(t, "P204: a row: Crash", d.Crash(picks...), m.crash(picks))
	case 3:
		n, b := r.IntN(8)-1, make([]byte, 127+r.IntN(3))
		answers(t, "P202: a row: Write", d.Write(n, b), m.write(n, b))
	default:
		n, b := r.IntN(6), stripe(r.IntN(200))
		answers(t, "P202: a row: Write", d.Write(n, b), m.write(n, b))
	}
}

func TestRows(t *testing.T) { // P202 to P205
	for seed := range uint64(200) {
		r := rand.New(rand.NewPCG(seed, 2))
		d := made(t, 6)
		m := &model{last: make([][]byte, 6)}
		for range 6 {
			m.platter = append(m.platter, make([]byte, 128))
		}
		for range 80 {
			turn(t, r, d, m)
			if d.Dead() != m.dead || d.Ops() != m.ops {
				t.Fatalf("P202: row %d: dead %v, %d operations, not %v, %d", seed, d.Dead(), d.Ops(), m.dead, m.ops)
			}
			for n := 0; n < 6 && !m.dead; n++ {
				holds(t, "P205: a row", d, n, m.newest(n))
			}
			if t.Failed() {
				t.Fatalf("row %d", seed)
			}
		}
	}
}

func TestNobodyElses(t *testing.T) { // P2
	d := made(t, 3)
	room := append(stripe(1), 1, 2, 3)
	in := room[:128]
	d.Write(1, in)
	if !bytes.Equal(room, append(stripe(1), 1, 2, 3)) {
		t.Error("P2: Write has changed what it was given, or its spare room")
	}
	clear(room)
	holds(t, "P2: what was written is not kept", d, 1, stripe(1))

	for _, flushed := range []bool{false, true} {
		a, _ := d.Read(1)
		b, _ := d.Read(1)
		full := a[:cap(a)]
		for i := range full {
			full[i] = 0xEE
		}
		if !bytes.Equal(b, stripe(1)) {
			t.Error("P2: two answers share memory")
		}
		holds(t, "P2: an answer is new memory", d, 1, stripe(1))
		if !flushed {
			d.Flush()
		}
	}
	holds(t, "P2: its neighbour", d, 2, make([]byte, 128))

	a, _ := d.Read(1)
	d.Write(1, stripe(2))
	d.Flush()
	d.Write(1, stripe(3))
	d.Crash(60)
	if !bytes.Equal(a, stripe(1)) {
		t.Error("P2: what was answered changes with the disk")
	}

	picks := []int{-1, 500, 3, 7, 8, 9}
	d.Write(0, stripe(4))
	d.Crash(picks[:3]...)
	if !slices.Equal(picks, []int{-1, 500, 3, 7, 8, 9}) {
		t.Error("P2: Crash has changed its picks, or their spare room")
	}
}

func TestNoListIsAnEmptyOne(t *testing.T) { // P2
	for _, picks := range [][]int{nil, {}} {
		d := made(t, 2)
		d.Write(0, stripe(1))
		counts(t, "P2: no picks", d.Crash(picks...), 1)
		holds(t, "P204: no picks", d, 0, make([]byte, 128))
		answers(t, "P2: no bytes", d.Write(0, nil), api.ErrArg)
		answers(t, "P2: no bytes", d.Write(0, []byte{}), api.ErrArg)
	}
}

func TestTwoDisks(t *testing.T) { // P7
	a, b := made(t, 3), made(t, 3)
	a.Write(1, stripe(1))
	holds(t, "P7: written on the other one", b, 1, make([]byte, 128))
	b.Write(1, stripe(2))
	b.Flush()
	counts(t, "P7: operations", a.Ops(), 1)
	counts(t, "P7: operations", b.Ops(), 2)
	counts(t, "P7: flushed on the other one", a.Crash(), 1)
	holds(t, "P7", a, 1, make([]byte, 128))
	a.Stop(1)
	answers(t, "P7: stopped on the other one", b.Flush(), api.OK)
	a.Flush()
	if !a.Dead() || b.Dead() {
		t.Error("P7: dead on the other one")
	}
	b.Write(2, stripe(3))
	b.Crash(128)
	if !a.Dead() {
		t.Error("P7: crashed on the other one")
	}
	holds(t, "P7", b, 1, stripe(2))
	holds(t, "P7", b, 2, stripe(3))
}

func TestTheSameCallsAnswerTheSame(t *testing.T) { // P3
	row := func() []byte {
		d := made(t, 64)
		var said []byte
		for i := range 64 {
			d.Write(i*29%64, stripe(i))
		}
		said = append(said, byte(d.Crash(1, 2, 128, 4, 5, 99, 7, 8, 64, 10)))
		for i := range 64 {
			b, _ := d.Read(i)
			said = append(said, b...)
		}
		return said
	}
	first := row()
	for range 10 {
		if !bytes.Equal(row(), first) {
			t.Fatal("P3: the same calls answered otherwise")
		}
	}
}
