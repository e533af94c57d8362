package label_test

import (
	"fmt"
	"math"
	"math/rand/v2"
	"slices"
	"strings"
	"testing"

	"donjon/api"
	"donjon/label"
)

// of is the label of four numbers.
func of(n [4]int) api.Label {
	return api.Label{Sec: n[0], SecCats: n[1], Int: n[2], IntCats: n[3]}
}

// numbers are a label's four, in the order in which they are told.
func numbers(l api.Label) [4]int { return [4]int{l.Sec, l.SecCats, l.Int, l.IntCats} }

func lab(sec, secCats, integ, intCats int) api.Label {
	return of([4]int{sec, secCats, integ, intCats})
}

// most are the greatest of each of the four numbers; the least is 0.
func most() [4]int { return [4]int{3, 255, 3, 255} }

// every goes through all labels that may be, by Less's order.
func every(f func(l api.Label)) {
	for sec := range 4 {
		for secCats := range 256 {
			for integ := range 4 {
				for intCats := range 256 {
					f(lab(sec, secCats, integ, intCats))
				}
			}
		}
	}
}

// some are so many labels that may be: the ends, and others that look like nothing, the same ones in each run.
func some(n int) []api.Label {
	out := []api.Label{lab(0, 0, 0, 0), lab(0, 0, 3, 255), lab(3, 255, 0, 0), lab(3, 255, 3, 255), lab(1, 1, 1, 1), lab(2, 128, 2, 128)}
	r := rand.New(rand.NewPCG(4, 4))
	for len(out) < n {
		// Few categories here and many there, so that some labels are over others.
		out = append(out, lab(r.IntN(4), r.IntN(256)&r.IntN(256), r.IntN(4), r.IntN(256)|r.IntN(256)))
		out = append(out, lab(r.IntN(4), r.IntN(256)|r.IntN(256), r.IntN(4), r.IntN(256)&r.IntN(256)))
	}
	return out[:n]
}

// near are labels of few levels and categories, all of them: many are over one another, many are not.
func near() []api.Label {
	var out []api.Label
	for sec := range 3 {
		for secCats := range 4 {
			for integ := range 3 {
				for intCats := range 4 {
					out = append(out, lab(sec+1, secCats<<6, integ+1, intCats))
				}
			}
		}
	}
	return out
}

// far are numbers that no label may have.
func far() []int {
	return []int{-2, -255, -256, 257, 511, 512, 1 << 16, math.MaxInt32, math.MinInt32, 1 << 32, 1<<32 + 1, 1 << 40, math.MaxInt64 - 1, math.MaxInt64, math.MinInt64, math.MinInt64 + 1}
}

func TestCheck(t *testing.T) { // P401
	every(func(l api.Label) {
		if e := label.Check(l); e != api.OK {
			t.Fatalf("P401: Check(%v): %v", l, e)
		}
	})
	for _, base := range some(40) {
		for i, top := range most() {
			for _, x := range append(far(), -1, top+1) {
				n := numbers(base)
				n[i] = x
				if e := label.Check(of(n)); e != api.ErrArg {
					t.Errorf("P401: Check(%v): %v", n, e)
				}
			}
		}
	}
	// A level may not be what categories may be.
	for _, x := range []int{4, 5, 7, 8, 128, 254, 255} {
		if label.Check(lab(x, 0, 0, 0)) != api.ErrArg || label.Check(lab(0, 0, x, 0)) != api.ErrArg {
			t.Errorf("P401: Check of the level %d", x)
		}
	}
	for _, l := range []api.Label{lab(4, 256, 4, 256), lab(-1, -1, -1, -1), lab(3, 256, 3, 256), lab(4, 255, 4, 255)} {
		if e := label.Check(l); e != api.ErrArg {
			t.Errorf("P401: Check(%v): %v", l, e)
		}
	}
}

func TestBottom(t *testing.T) { // P401
	if b := label.Bottom(); b != lab(0, 0, 3, 255) || label.Check(b) != api.OK {
		t.Errorf("P401: Bottom: %v", b)
	}
}

// bit tells whether a category is among some.
func bit(cats, k int) bool { return cats>>k%2 == 1 }

// isOver says the same as the document, category by category.
func isOver(a, b api.Label) bool {
	for k := range 8 {
		if bit(b.SecCats, k) && !bit(a.SecCats, k) || bit(a.IntCats, k) && !bit(b.IntCats, k) {
			return false
		}
	}
	return a.Sec >= b.Sec && a.Int <= b.Int
}

// cats are those categories of which in says so.
func cats(in func(k int) bool) int {
	n := 0
	for k := range 8 {
		if in(k) {
			n += 1 << k
		}
	}
	return n
}

// greater, and lesser, without the words of the language that the program has for them.
func greater(x, y int) int {
	if x > y {
		return x
	}
	return y
}

func lesser(x, y int) int { return x + y - greater(x, y) }

func isJoin(a, b api.Label) api.Label {
	return lab(greater(a.Sec, b.Sec), cats(func(k int) bool { return bit(a.SecCats, k) || bit(b.SecCats, k) }),
		lesser(a.Int, b.Int), cats(func(k int) bool { return bit(a.IntCats, k) && bit(b.IntCats, k) }))
}

func isMeet(a, b api.Label) api.Label {
	return lab(lesser(a.Sec, b.Sec), cats(func(k int) bool { return bit(a.SecCats, k) && bit(b.SecCats, k) }),
		greater(a.Int, b.Int), cats(func(k int) bool { return bit(a.IntCats, k) || bit(b.IntCats, k) }))
}

// pair holds Over, Join and Meet of two labels to the document's words, each way about.
func pair(t *testing.T, a, b api.Label) {
	t.Helper()
	for _, x := range [][2]api.Label{{a, b}, {b, a}} {
		if got := label.Over(x[0], x[1]); got != isOver(x[0], x[1]) {
			t.Fatalf("P401: Over(%v, %v): %v", x[0], x[1], got)
		}
		if got := label.Join(x[0], x[1]); got != isJoin(x[0], x[1]) {
			t.Fatalf("P401: Join(%v, %v): %v", x[0], x[1], got)
		}
		if got := label.Meet(x[0], x[1]); got != isMeet(x[0], x[1]) {
			t.Fatalf("P401: Meet(%v, %v): %v", x[0], x[1], got)
		}
	}
}

func TestOver(t *testing.T) { // P401
	for i, x := range []struct {
		a, b api.Label
		want bool
	}{
		{lab(1, 2, 1, 2), lab(1, 2, 1, 2), true},
		{lab(2, 2, 1, 2), lab(1, 2, 1, 2), true}, {lab(1, 2, 1, 2), lab(2, 2, 1, 2), false},
		{lab(1, 6, 1, 2), lab(1, 2, 1, 2), true}, {lab(1, 2, 1, 2), lab(1, 6, 1, 2), false},
		{lab(1, 2, 0, 2), lab(1, 2, 1, 2), true}, {lab(1, 2, 1, 2), lab(1, 2, 0, 2), false},
		{lab(1, 2, 1, 2), lab(1, 2, 1, 6), true}, {lab(1, 2, 1, 6), lab(1, 2, 1, 2), false},
		{lab(3, 255, 0, 0), lab(0, 0, 3, 255), true}, {lab(0, 0, 3, 255), lab(3, 255, 0, 0), false},
		// A greater number of categories is not more of them.
		{lab(1, 4, 1, 2), lab(1, 3, 1, 2), false}, {lab(1, 128, 1, 2), lab(1, 127, 1, 2), false}, {lab(1, 2, 1, 3), lab(1, 2, 1, 4), false},
		// Neither is over the other.
		{lab(2, 0, 1, 0), lab(1, 1, 1, 0), false}, {lab(1, 1, 1, 0), lab(2, 0, 1, 0), false},
		{lab(1, 0, 2, 0), lab(0, 0, 1, 0), false}, {lab(0, 0, 1, 0), lab(1, 0, 2, 0), false},
		{lab(1, 1, 1, 0), lab(1, 2, 1, 0), false}, {lab(1, 2, 1, 0), lab(1, 1, 1, 0), false},
		{lab(1, 0, 1, 1), lab(1, 0, 1, 2), false}, {lab(1, 0, 1, 2), lab(1, 0, 1, 1), false},
		{lab(3, 255, 3, 255), lab(0, 0, 0, 0), false}, {lab(0, 0, 0, 0), lab(3, 255, 3, 255), false},
	} {
		if got := label.Over(x.a, x.b); got != x.want {
			t.Errorf("P401: %d: Over(%v, %v): %v", i, x.a, x.b, got)
		}
	}
}

func TestJoinAndMeet(t *testing.T) { // P401
	for i, x := range []struct{ a, b, join, meet api.Label }{
		{lab(1, 2, 1, 2), lab(1, 2, 1, 2), lab(1, 2, 1, 2), lab(1, 2, 1, 2)},
		{lab(1, 3, 1, 4), lab(2, 9, 3, 6), lab(2, 11, 1, 4), lab(1, 1, 3, 6)},
		{lab(1, 5, 2, 5), lab(2, 6, 1, 6), lab(2, 7, 1, 4), lab(1, 4, 2, 7)},
		{lab(0, 240, 0, 240), lab(3, 15, 3, 15), lab(3, 255, 0, 0), lab(0, 0, 3, 255)},
		{lab(0, 0, 0, 0), lab(3, 255, 3, 255), lab(3, 255, 0, 0), lab(0, 0, 3, 255)},
		{lab(0, 0, 3, 255), lab(3, 255, 0, 0), lab(3, 255, 0, 0), lab(0, 0, 3, 255)},
	} {
		if label.Join(x.a, x.b) != x.join || label.Join(x.b, x.a) != x.join {
			t.Errorf("P401: %d: Join: %v, %v", i, label.Join(x.a, x.b), label.Join(x.b, x.a))
		}
		if label.Meet(x.a, x.b) != x.meet || label.Meet(x.b, x.a) != x.meet {
			t.Errorf("P401: %d: Meet: %v, %v", i, label.Meet(x.a, x.b), label.Meet(x.b, x.a))
		}
	}
}

func TestPairs(t *testing.T) { // P401
	for _, l := range [][]api.Label{some(300), near()} {
		for _, a := range l {
			for _, b := range l {
				pair(t, a, b)
			}
		}
	}
	// Labels that differ in one number alone: in all pairs of what it may be.
	for _, base := range some(8) {
		for i, top := range most() {
			for x := range top + 1 {
				for y := range top + 1 {
					a, b := numbers(base), numbers(base)
					a[i], b[i] = x, y
					pair(t, of(a), of(b))
				}
			}
		}
	}
	// And in one category alone.
	for _, base := range some(200) {
		for k := range 8 {
			for _, i := range []int{1, 3} {
				n := numbers(base)
				n[i] ^= 1 << k
				pair(t, base, of(n))
			}
		}
	}
}

func TestTextAndParseOfAll(t *testing.T) { // P402
	every(func(l api.Label) {
		want := fmt.Sprintf("%d.%d.%d.%d", l.Sec, l.SecCats, l.Int, l.IntCats)
		if s := label.Text(l); s != want {
			t.Fatalf("P402: Text(%v): %q", l, s)
		}
		if got, e := label.Parse(want); got != l || e != api.OK {
			t.Fatalf("P402: Parse(%q): %v, %v", want, got, e)
		}
	})
	if s := label.Text(label.Bottom()); s != "0.0.3.255" {
		t.Errorf("P402: Text(Bottom): %q", s)
	}
	if l, e := label.Parse("2.3.1.16"); l != lab(2, 3, 1, 16) || e != api.OK {
		t.Errorf("P402: %v, %v", l, e)
	}
}

// refused says that a text is no label's.
func refused(t *testing.T, s string) {
	t.Helper()
	if l, e := label.Parse(s); l != (api.Label{}) || e != api.ErrArg {
		t.Errorf("P402, P4: Parse(%q): %v, %v", s, l, e)
	}
}

func TestParseRefuses(t *testing.T) { // P402, P4
	for _, s := range []string{
		"", "0", "1.2", "1.2.3", "1.2.3.4.5", "1.2.3.4.", ".1.2.3.4", "1.2.3.", ".1.2.3", ".", "..", "...", "....", "1..2.3", "1.2..3", "1...2", "1..2.3.4", "1.2.3..4", "0.0.3.255.0.0.3.255",
		"1,2,3,4", "1:2:3:4", "1 2 3 4", "1.2.3,4", "1-2-3-4", "1.2.3/4", "1234", "1\x002\x003\x004",
		"1.2.3.x", "x", "a.b.c.d", "1.2.3.4x", "0x1.2.3.4", "1.0b1.3.4", "1.2.3.0o7", "1.2.3.1_0", "1.2.3.1e1", "1.2.3.ff", "NaN.0.0.0", "Inf.0.0.0", "{1 2 3 4}", "(1.2.3.4)", "\"1.2.3.4\"",
		"1.2.3.\xff", "\xff", "1.2.3.4\xff", "\xef\xbb\xbf1.2.3.4", "１.2.3.4", "1.2.3.４", "1.2.3.٤", "1。2。3。4", "1.2.3.4\u200b", "1\u00a0.2.3.4", "1·2·3·4", "1.2.3.\xb2", "1.2.3.²", "−1.0.0.0", "\xc0\xae1.2.3", "1.2.3.4\x00", "\x001.2.3.4",
	} {
		refused(t, s)
	}
}

func TestParseNumbers(t *testing.T) { // P402, P4
	for _, base := range some(12) {
		for i, top := range most() {
			n := numbers(base)
			own := fmt.Sprint(n[i])
			wrong := []string{"", fmt.Sprint(top + 1), "-1", "-0", "+0", "00", "0" + own, "00" + own, "+" + own, "-" + own, " " + own, own + " ", "\t" + own, own + "\n", own + "\r", own + ",", own + "_", "_" + own, own + ".", own + ".0", own + "e0", "0x" + own, "x", " ", "-", "+", "--1",
				"4294967296", "4294967297", "9223372036854775807", "9223372036854775808", "-9223372036854775808", "-9223372036854775809", "18446744073709551615", "18446744073709551616", "18446744073709551617", "99999999999999999999", strings.Repeat("9", 1000), strings.Repeat("0", 1000), "1" + strings.Repeat("0", 1000)}
			for _, x := range far() {
				wrong = append(wrong, fmt.Sprint(x))
			}
			for _, w := range wrong {
				refused(t, with(n, i, w))
			}
		}
	}
}

// with is the text of four numbers, one of them another text.
func with(n [4]int, i int, text string) string {
	var parts []string
	for _, x := range n {
		parts = append(parts, fmt.Sprint(x))
	}
	parts[i] = text
	return strings.Join(parts, ".")
}

// texts are those of all labels that may be, made without the program.
func texts() map[string]api.Label {
	out := map[string]api.Label{}
	every(func(l api.Label) {
		out[fmt.Sprintf("%d.%d.%d.%d", l.Sec, l.SecCats, l.Int, l.IntCats)] = l
	})
	return out
}

// just says that Parse takes a text if and only if it is a label's, and tells that one.
func just(t *testing.T, all map[string]api.Label, s string) {
	t.Helper()
	want, is := all[s]
	if got, e := label.Parse(s); got != want || is != (e == api.OK) || !is && e != api.ErrArg {
		t.Fatalf("P402: Parse(%q): %v, %v", s, got, e)
	}
}

func TestParseTakesJustTheTexts(t *testing.T) { // P402, P4
	all := texts()
	// All texts of these signs that are not too long.
	row := []string{""}
	for range 9 {
		var next []string
		for _, s := range row {
			for _, c := range "025." {
				next = append(next, s+string(c))
			}
		}
		row = next
		for _, s := range row {
			just(t, all, s)
		}
	}
	// All that one byte more, one less or another one makes of a label's text, and any two of its bytes the other way about.
	for _, l := range some(60) {
		s := fmt.Sprintf("%d.%d.%d.%d", l.Sec, l.SecCats, l.Int, l.IntCats)
		for i := range len(s) + 1 {
			for c := range 256 {
				just(t, all, s[:i]+string([]byte{byte(c)})+s[i:])
				if i < len(s) {
					just(t, all, s[:i]+string([]byte{byte(c)})+s[i+1:])
				}
			}
			if i < len(s) {
				just(t, all, s[:i])
				just(t, all, s[i:])
				just(t, all, s[:i]+s[i+1:])
			}
			if i+1 < len(s) {
				just(t, all, s[:i]+s[i+1:i+2]+s[i:i+1]+s[i+2:])
			}
		}
	}
}

func TestParseLongTexts(t *testing.T) { // P1, P402
	for _, s := range []string{strings.Repeat(".", 1<<20), strings.Repeat("1.", 1<<20), strings.Repeat("1", 1<<20), "1.2.3." + strings.Repeat("4", 1<<20), strings.Repeat("0", 1<<20) + ".0.0.0", "1.2.3.4" + strings.Repeat(" ", 1<<20)} {
		if l, e := label.Parse(s); l != (api.Label{}) || e != api.ErrArg {
			t.Errorf("P402, P4: Parse of %d bytes, %q ..: %v, %v", len(s), s[:8], l, e)
		}
	}
}

func TestLess(t *testing.T) { // P402
	var last api.Label
	first := true
	every(func(l api.Label) {
		if label.Less(l, l) || !first && (!label.Less(last, l) || label.Less(l, last)) {
			t.Fatalf("P402: Less: %v, %v", last, l)
		}
		last, first = l, false
	})
	// As numbers, not as texts, and the first number that differs alone counts.
	for _, x := range [][2]api.Label{
		{lab(0, 9, 0, 0), lab(0, 10, 0, 0)}, {lab(0, 0, 0, 99), lab(0, 0, 0, 100)}, {lab(0, 255, 3, 255), lab(1, 0, 0, 0)}, {lab(1, 1, 3, 255), lab(1, 2, 0, 0)}, {lab(1, 1, 0, 255), lab(1, 1, 1, 0)}, {lab(1, 1, 1, 0), lab(1, 1, 1, 1)}, {lab(0, 0, 3, 255), lab(3, 255, 0, 0)},
	} {
		if !label.Less(x[0], x[1]) || label.Less(x[1], x[0]) {
			t.Errorf("P402: Less: %v, %v", x[0], x[1])
		}
	}
	for _, l := range [][]api.Label{some(300), near()} {
		for _, a := range l {
			for _, b := range l {
				x, y := numbers(a), numbers(b)
				if label.Less(a, b) != (slices.Compare(x[:], y[:]) < 0) {
					t.Fatalf("P402: Less(%v, %v): %v", a, b, label.Less(a, b))
				}
			}
		}
	}
}

func TestLessIsAStrictOrder(t *testing.T) { // P402
	l := some(120)
	for _, a := range l {
		for _, b := range l {
			one := 0
			for _, is := range []bool{label.Less(a, b), label.Less(b, a), a == b} {
				if is {
					one++
				}
			}
			if one != 1 {
				t.Fatalf("P402: %v, %v", a, b)
			}
			for _, c := range l {
				if label.Less(a, b) && label.Less(b, c) && !label.Less(a, c) {
					t.Fatalf("P402: %v, %v, %v", a, b, c)
				}
			}
		}
	}
}

func TestOverIsAnOrder(t *testing.T) { // P403
	every(func(l api.Label) {
		if !label.Over(l, l) || !label.Over(l, label.Bottom()) || l != label.Bottom() && label.Over(label.Bottom(), l) {
			t.Fatalf("P403: %v", l)
		}
	})
	for _, l := range [][]api.Label{some(120), near()} {
		for _, a := range l {
			for _, b := range l {
				if label.Over(a, b) && label.Over(b, a) && a != b {
					t.Fatalf("P403: %v and %v are over each other", a, b)
				}
				for _, c := range l {
					if label.Over(a, b) && label.Over(b, c) && !label.Over(a, c) {
						t.Fatalf("P403: %v, %v, %v", a, b, c)
					}
				}
			}
		}
	}
}

func TestJoinIsTheLeastOverBoth(t *testing.T) { // P403
	for _, l := range [][]api.Label{some(120), near()} {
		for _, a := range l {
			for _, b := range l {
				j, m := label.Join(a, b), label.Meet(a, b)
				if label.Check(j) != api.OK || label.Check(m) != api.OK {
					t.Fatalf("P403: %v, %v: %v, %v may not be", a, b, j, m)
				}
				if !label.Over(j, a) || !label.Over(j, b) || !label.Over(a, m) || !label.Over(b, m) {
					t.Fatalf("P403: %v, %v: %v is not over both, or they not over %v", a, b, j, m)
				}
				for _, c := range l {
					if label.Over(c, a) && label.Over(c, b) && !label.Over(c, j) || label.Over(a, c) && label.Over(b, c) && !label.Over(m, c) {
						t.Fatalf("P403: %v, %v: %v, %v, and %v", a, b, j, m, c)
					}
				}
			}
		}
	}
}

func TestLabelsThatMayNotBe(t *testing.T) { // P1, P3, P8
	numbers := append(far(), -1, 0, 3, 4, 255, 256)
	r := rand.New(rand.NewPCG(8, 8))
	pick := func() api.Label {
		return lab(numbers[r.IntN(len(numbers))], numbers[r.IntN(len(numbers))], numbers[r.IntN(len(numbers))], numbers[r.IntN(len(numbers))])
	}
	for range 20000 {
		a, b := pick(), pick()
		if label.Check(a) != label.Check(a) || label.Over(a, b) != label.Over(a, b) || label.Join(a, b) != label.Join(a, b) || label.Meet(a, b) != label.Meet(a, b) || label.Text(a) != label.Text(a) || label.Less(a, b) != label.Less(a, b) {
			t.Fatalf("P3: %v, %v", a, b)
		}
		if l, e := label.Parse(label.Text(a)); e != label.Check(a) || e == api.OK && l != a || e != api.OK && l != (api.Label{}) {
			t.Fatalf("P402, P4: %v: %v, %v", a, l, e)
		}
	}
}
