package isa_test

import (
	"fmt"
	"math"
	"math/big"
	"math/rand/v2"
	"regexp"
	"strings"
	"testing"

	"donjon/api"
	"donjon/isa"
)

func in(op, p, n int) api.Instr { return api.Instr{Op: op, P: p, N: n} }

func ptr(seg, off, ring int) api.Pointer { return api.Pointer{Seg: seg, Off: off, Ring: ring} }

// names are the operations' words, from 0 on.
func names() []string {
	return strings.Fields("halt lda sta ldi add sub mul fadd fsub fmul fdiv fless flt fix jmp jz jn setp ldp getp call ret out")
}

// numbers are such as an N may be: both ends, nought, and others whose bits tell their bytes apart.
func numbers() []int {
	return []int{0, 1, -1, 2, -2, 9, 10, -10, 127, 128, -128, 255, 256, -256, 65535, 65536, -65536, 0x12345678, -0x12345678, 1 << 30, -1 << 30, 1<<31 - 2, 1<<31 - 1, -1<<31 + 1, -1 << 31}
}

// noNumbers are such as no N may be; some of them are one that may be, modulo 2^32.
func noNumbers() []int {
	return []int{1 << 31, 1<<31 + 1, -1<<31 - 1, -1<<31 - 2, 1<<32 - 1, 1 << 32, 1<<32 + 1, -1 << 32, -1<<32 + 1, -1<<32 - 1, 1 << 40, 1 << 48, 1 << 56, math.MaxInt64 - 1, math.MaxInt64, math.MinInt64, math.MinInt64 + 1}
}

// noOps are beside 0 to 22 and far away; some of them are one in their lowest bits.
func noOps() []int {
	return []int{-1, 23, -2, 24, 31, 32, 127, 128, -128, 254, 255, 256, 257, 278, -256, -255, -234, 512, 1 << 16, math.MaxInt32, math.MinInt32, 1 << 32, 1<<32 + 1, -1 << 32, 1 << 56, math.MaxInt64 - 1, math.MaxInt64, math.MinInt64, math.MinInt64 + 1}
}

// noPs are beside 0 to 3 and far away, likewise.
func noPs() []int {
	return []int{-1, 4, -2, -3, -4, 5, 7, 8, 15, 16, 127, 128, 255, 256, 257, 259, -256, -255, -253, 1 << 16, math.MaxInt32, math.MinInt32, 1 << 32, 1<<32 + 3, -1<<32 + 1, math.MaxInt64 - 1, math.MaxInt64, math.MinInt64, math.MinInt64 + 1}
}

// drawn are so many instructions that may be, the same ones in each run.
func drawn(count int) []api.Instr {
	r := rand.New(rand.NewPCG(15, 1))
	var out []api.Instr
	for range count {
		n := int(int32(r.Uint32())) >> r.IntN(32) // of few digits and of many
		out = append(out, in(r.IntN(23), r.IntN(4), n))
	}
	return out
}

// every goes through all operations and pointers, with each of the numbers.
func every(f func(i api.Instr)) {
	for op := range 23 {
		for p := range 4 {
			for _, n := range numbers() {
				f(in(op, p, n))
			}
		}
	}
}

// wordOf says Encode once more, by sums: what stands in a word from a bit on counts that bit's power of two.
func wordOf(i api.Instr) uint64 {
	sum := new(big.Int)
	add := func(n int, bit uint) {
		x := new(big.Int).Lsh(big.NewInt(int64(n)), bit)
		sum.Add(sum, x)
	}
	add(i.Op, 56)
	add(i.P, 48)
	add(i.N, 0)
	if i.N < 0 {
		add(1, 32)
	}
	return sum.Uint64()
}

// textOf says Text once more.
func textOf(i api.Instr) string { return fmt.Sprintf("%s %d %d", names()[i.Op], i.P, i.N) }

// refuses holds Encode to an error, and no word beside it.
func refuses(t *testing.T, i api.Instr, want api.Errno) {
	t.Helper()
	if w, e := isa.Encode(i); e != want || w != 0 {
		t.Errorf("P1501: Encode(%v): %x, %v; not 0, %v", i, uint64(w), e, want)
	}
}

// decodes holds Decode to an answer; beside an error it is no instruction.
func decodes(t *testing.T, w uint64, want api.Instr, wantE api.Errno) {
	t.Helper()
	if i, e := isa.Decode(int64(w)); e != wantE || i != want {
		t.Errorf("P1501: Decode(%016x): %v, %v; not %v, %v", w, i, e, want, wantE)
	}
}

func TestOps(t *testing.T) { // P1501
	ops := []int{isa.Halt, isa.Lda, isa.Sta, isa.Ldi, isa.Add, isa.Sub, isa.Mul, isa.Fadd, isa.Fsub, isa.Fmul, isa.Fdiv, isa.Fless, isa.Flt, isa.Fix, isa.Jmp, isa.Jz, isa.Jn, isa.Setp, isa.Ldp, isa.Getp, isa.Call, isa.Ret, isa.Out}
	if len(ops) != 23 || len(names()) != 23 {
		t.Fatalf("P1501: %d operations, %d names", len(ops), len(names()))
	}
	for k, op := range ops {
		if op != k {
			t.Errorf("P1501: %s is %d, not %d", names()[k], op, k)
		}
	}
}

func TestExample(t *testing.T) { // the chapter's example
	w, e := isa.Encode(in(isa.Lda, 1, -1))
	if e != api.OK || fmt.Sprintf("%016x", uint64(w)) != "01010000ffffffff" {
		t.Errorf("P1501: Encode({Lda, 1, -1}): %016x, %v", uint64(w), e)
	}
	decodes(t, 0x01010000ffffffff, in(isa.Lda, 1, -1), api.OK)
}

func TestEncode(t *testing.T) { // P1501
	for _, x := range []struct {
		i    api.Instr
		want uint64
	}{
		{in(isa.Halt, 0, 0), 0},
		{in(isa.Halt, 0, 1), 1},
		{in(isa.Halt, 0, -1), 0x00000000ffffffff},
		{in(isa.Halt, 1, 0), 0x0001000000000000},
		{in(isa.Lda, 0, 0), 0x0100000000000000},
		{in(isa.Sta, 2, 0x12345678), 0x0202000012345678},
		{in(isa.Jn, 3, -2), 0x10030000fffffffe},
		{in(isa.Out, 3, 1<<31-1), 0x160300007fffffff},
		{in(isa.Out, 3, -1<<31), 0x1603000080000000},
		{in(isa.Ret, 0, -1<<31+1), 0x1500000080000001},
	} {
		if w, e := isa.Encode(x.i); e != api.OK || uint64(w) != x.want {
			t.Errorf("P1501: Encode(%v): %016x, %v; not %016x", x.i, uint64(w), e, x.want)
		}
	}
	each := func(i api.Instr) {
		w, e := isa.Encode(i)
		if e != api.OK || uint64(w) != wordOf(i) {
			t.Fatalf("P1501: Encode(%v): %016x, %v; not %016x", i, uint64(w), e, wordOf(i))
		}
		if uint64(w)>>32&0xffff != 0 {
			t.Fatalf("P1501: Encode(%v): %016x has a bit of 47 to 32", i, uint64(w))
		}
	}
	every(each)
	for _, i := range drawn(20000) {
		each(i)
	}
}

func TestEncodeRefuses(t *testing.T) { // P1501, P4
	for _, op := range noOps() {
		refuses(t, in(op, 0, 0), api.ErrKind)
		refuses(t, in(op, 3, -1), api.ErrKind)
	}
	for op := range 23 {
		for _, p := range noPs() {
			refuses(t, in(op, p, 0), api.ErrArg)
			refuses(t, in(op, p, -7), api.ErrArg)
		}
		for p := range 4 {
			for _, n := range noNumbers() {
				refuses(t, in(op, p, n), api.ErrArg)
			}
		}
	}
}

func TestEncodeErrorsInOrder(t *testing.T) { // P1501, P6
	for _, op := range noOps() {
		for _, p := range noPs() {
			refuses(t, in(op, p, 0), api.ErrKind)
			refuses(t, in(op, p, 1<<31), api.ErrKind)
		}
		for _, n := range noNumbers() {
			refuses(t, in(op, 0, n), api.ErrKind)
		}
	}
	for _, p := range noPs() {
		for _, n := range noNumbers() {
			refuses(t, in(isa.Out, p, n), api.ErrArg)
		}
	}
}

// wantDecode says Decode once more, by the word's hexadecimal digits.
func wantDecode(w uint64) (api.Instr, api.Errno) {
	var b [8]int
	for k := range b {
		fmt.Sscanf(fmt.Sprintf("%016x", w)[2*k:2*k+2], "%x", &b[k])
	}
	switch {
	case b[0] > 22:
		return api.Instr{}, api.ErrKind
	case b[1] > 3:
		return api.Instr{}, api.ErrArg
	case b[2]+b[3] > 0:
		return api.Instr{}, api.ErrBad
	}
	n := ((b[4]*256+b[5])*256+b[6])*256 + b[7]
	if b[4] > 127 {
		n -= 1 << 32
	}
	return in(b[0], b[1], n), api.OK
}

func TestDecode(t *testing.T) { // P1501
	for _, x := range []struct {
		w    uint64
		want api.Instr
	}{
		{0, in(isa.Halt, 0, 0)},
		{1, in(isa.Halt, 0, 1)},
		{0x000000007fffffff, in(isa.Halt, 0, 1<<31-1)},
		{0x0000000080000000, in(isa.Halt, 0, -1<<31)},
		{0x00000000ffffffff, in(isa.Halt, 0, -1)},
		{0x0202000012345678, in(isa.Sta, 2, 0x12345678)},
		{0x10030000fffffffe, in(isa.Jn, 3, -2)},
		{0x160300007fffffff, in(isa.Out, 3, 1<<31-1)},
		{0x1603000080000000, in(isa.Out, 3, -1<<31)},
		{0x16030000ffffffff, in(isa.Out, 3, -1)},
	} {
		decodes(t, x.w, x.want, api.OK)
	}
	every(func(i api.Instr) { decodes(t, wordOf(i), i, api.OK) })
}

func TestDecodeRefuses(t *testing.T) { // P1501, P4
	for op := uint64(0); op < 256; op++ {
		want := api.ErrKind
		if op < 23 {
			want = api.OK
		}
		if _, e := isa.Decode(int64(op << 56)); e != want {
			t.Errorf("P1501: Decode of operation %d: %v", op, e)
		}
	}
	for _, op := range []uint64{23, 24, 32, 127, 128, 129, 255} { // from 128 on the word is negative
		decodes(t, op<<56, api.Instr{}, api.ErrKind)
		decodes(t, op<<56|3<<48|77, api.Instr{}, api.ErrKind)
	}
	for op := uint64(0); op < 23; op++ {
		for p := uint64(4); p < 256; p++ {
			decodes(t, op<<56|p<<48, api.Instr{}, api.ErrArg)
			decodes(t, op<<56|p<<48|0xffffffff, api.Instr{}, api.ErrArg)
		}
		for bit := 32; bit < 48; bit++ {
			for p := uint64(0); p < 4; p++ {
				decodes(t, op<<56|p<<48|1<<bit, api.Instr{}, api.ErrBad)
				decodes(t, op<<56|p<<48|1<<bit|0xffffffff, api.Instr{}, api.ErrBad)
			}
		}
		decodes(t, op<<56|0xffff<<32, api.Instr{}, api.ErrBad)
	}
}

func TestDecodeErrorsInOrder(t *testing.T) { // P1501, P6
	for bit := 32; bit < 48; bit++ {
		decodes(t, 23<<56|4<<48|1<<bit, api.Instr{}, api.ErrKind)
		decodes(t, 255<<56|1<<bit, api.Instr{}, api.ErrKind)
		decodes(t, 22<<56|4<<48|1<<bit, api.Instr{}, api.ErrArg)
		decodes(t, 255<<48|1<<bit, api.Instr{}, api.ErrArg)
	}
	decodes(t, 23<<56|4<<48, api.Instr{}, api.ErrKind)
	decodes(t, 255<<56|255<<48, api.Instr{}, api.ErrKind)
}

func TestDecodeEnds(t *testing.T) { // P1501, P1
	for _, w := range []int64{math.MinInt64, math.MinInt64 + 1, -2, -1, math.MaxInt64 - 1, math.MaxInt64} {
		decodes(t, uint64(w), api.Instr{}, api.ErrKind)
	}
	decodes(t, 22<<56|3<<48|0xffff<<32|0xffffffff, api.Instr{}, api.ErrBad)
	decodes(t, 22<<56|0x00ffffffffffffff, api.Instr{}, api.ErrArg)
	decodes(t, 23<<56-1, api.Instr{}, api.ErrArg)
}

func TestDecodeOfDrawn(t *testing.T) { // P1501
	r := rand.New(rand.NewPCG(15, 2))
	for range 50000 {
		w := r.Uint64()
		if r.IntN(4) > 0 { // most of those that look like nothing have no Op
			w &= 0x1f07ffffffffffff
		}
		if r.IntN(2) > 0 {
			w &^= 0xffff << 32 &^ (1 << (32 + r.IntN(32)))
		}
		want, e := wantDecode(w)
		decodes(t, w, want, e)
		if e == api.OK && wordOf(want) != w {
			t.Fatalf("P1501: %016x is not the word of %v", w, want)
		}
	}
}

func TestText(t *testing.T) { // P1502
	for _, x := range []struct {
		i    api.Instr
		want string
	}{
		{in(isa.Halt, 0, 0), "halt 0 0"},
		{in(isa.Lda, 1, -1), "lda 1 -1"},
		{in(isa.Fless, 3, -20), "fless 3 -20"},
		{in(isa.Jz, 2, 10), "jz 2 10"},
		{in(isa.Ldi, 0, 1<<31-1), "ldi 0 2147483647"},
		{in(isa.Out, 3, -1<<31), "out 3 -2147483648"},
		{in(isa.Getp, 2, 1000000), "getp 2 1000000"},
	} {
		if got := isa.Text(x.i); got != x.want {
			t.Errorf("P1502: Text(%v): %q, not %q", x.i, got, x.want)
		}
	}
	every(func(i api.Instr) {
		if got := isa.Text(i); got != textOf(i) {
			t.Errorf("P1502: Text(%v): %q, not %q", i, got, textOf(i))
		}
	})
}

func TestTextOfNone(t *testing.T) { // P1, P8: it ends, and nothing more
	for _, op := range append(noOps(), 0, 22) {
		for _, p := range append(noPs(), 0) {
			for _, n := range append(noNumbers(), 0) {
				isa.Text(in(op, p, n))
			}
		}
	}
}

// wantParse says Parse once more, by the form of a text and by numbers of any size.
func wantParse(s string) (api.Instr, api.Errno) {
	m := textForm.FindStringSubmatch(s)
	if m == nil {
		return api.Instr{}, api.ErrWord
	}
	n, _ := new(big.Int).SetString(m[3], 10)
	if n.Cmp(big.NewInt(-1<<31)) < 0 || n.Cmp(big.NewInt(1<<31-1)) > 0 {
		return api.Instr{}, api.ErrWord
	}
	for op, name := range names() {
		if name == m[1] {
			return in(op, int(m[2][0]-'0'), int(n.Int64())), api.OK
		}
	}
	return api.Instr{}, api.ErrWord
}

var textForm = regexp.MustCompile(`^([a-z]+) ([0-3]) (0|-?[1-9][0-9]*)$`)

// parses holds Parse to the form of a text.
func parses(t *testing.T, s string) {
	t.Helper()
	want, wantE := wantParse(s)
	if i, e := isa.Parse(s); e != wantE || i != want {
		t.Fatalf("P1502: Parse(%.60q): %v, %v; not %v, %v", s, i, e, want, wantE)
	}
}

// noText holds Parse to ErrWord, and no instruction beside it.
func noText(t *testing.T, s string) {
	t.Helper()
	if i, e := isa.Parse(s); e != api.ErrWord || i != (api.Instr{}) {
		t.Errorf("P1502: Parse(%.60q): %v, %v", s, i, e)
	}
}

func TestParse(t *testing.T) { // P1502
	every(func(i api.Instr) {
		if got, e := isa.Parse(textOf(i)); e != api.OK || got != i {
			t.Errorf("P1502: Parse(%q): %v, %v", textOf(i), got, e)
		}
	})
	for _, x := range []struct {
		s    string
		want api.Instr
	}{
		{"halt 0 0", in(isa.Halt, 0, 0)},
		{"fless 3 -20", in(isa.Fless, 3, -20)},
		{"ldi 0 2147483647", in(isa.Ldi, 0, 1<<31-1)},
		{"out 3 -2147483648", in(isa.Out, 3, -1<<31)},
	} {
		if got, e := isa.Parse(x.s); e != api.OK || got != x.want {
			t.Errorf("P1502: Parse(%q): %v, %v", x.s, got, e)
		}
	}
}

func TestParseWords(t *testing.T) { // P1502: each word by itself, ahead of others that are right
	for _, name := range []string{"", "Halt", "HALT", "hAlt", "Lda", "OUT", "hal", "halts", "hlt", "xhalt", "op", "nop", "div", "neg", "fmax", "0", "1", "22", "-1", "-", "+", ".", "halt0", "halt,", "h\x00lt", "halt\x00", "hält", "hal\xff", "ſub", "jmp,jz"} {
		noText(t, name+" 0 0")
		noText(t, name+" 3 -5")
	}
	for _, p := range []string{"", "4", "5", "9", "10", "03", "00", "01", "-0", "-1", "+0", "+1", "+3", "-", "+", "x", "0x1", "1.", "1.0", "1e0", "0b1", "0o1", "1_0", "0_1", "_1", "256", "257", "4294967296", "4294967297", "-4294967295", "18446744073709551616", "18446744073709551617", "99999999999999999999999", "p", "P1", "p1", "①", "٣", "\x001", "1\x00", "\xff"} {
		noText(t, "lda "+p+" 0")
		noText(t, "lda "+p+" -5")
	}
	for _, n := range []string{"", "00", "01", "007", "-0", "-00", "-01", "+0", "+1", "+2147483647", "--1", "-+1", "+-1", "1-", "-", "+", "x", "1x", "x1", "0x10", "ff", "1.", ".1", "1.0", "1e3", "0b1", "0o1", "1_000", "1,000", "inf", "nan", "2147483648", "-2147483649", "4294967295", "4294967296", "4294967297", "-4294967296", "-4294967295", "9223372036854775807", "9223372036854775808", "-9223372036854775808", "-9223372036854775809", "18446744073709551615", "18446744073709551616", "18446744073709551617", "-18446744073709551616", "-18446744073709551617", "99999999999999999999", "02147483647", "-02147483648", "٣", "−1", "1\x00", "\x001", "\xff"} {
		noText(t, "lda 1 "+n)
	}
}

func TestParseBlanks(t *testing.T) { // P1502
	for _, blank := range []string{" ", "  ", "\t", "\n", "\r", "\r\n", "\v", "\f", "\x00", "\u00a0", "\u2003", "\ufeff", "   "} {
		for _, s := range []string{"%shalt 0 0", "halt%s 0 0", "halt %s0 0", "halt 0%s 0", "halt 0 %s0", "halt 0 0%s", "out%s 3 -7", "out 3 -%s7", "out 3 -7%s"} {
			noText(t, fmt.Sprintf(s, blank))
		}
		if blank != " " { // in place of a blank
			noText(t, "halt"+blank+"0 0")
			noText(t, "halt 0"+blank+"0")
			noText(t, "halt"+blank+"0"+blank+"0")
		}
	}
}

func TestParseCounts(t *testing.T) { // P1502
	for _, s := range []string{"", " ", "  ", "   ", "halt", "halt ", " halt", "halt 0", "halt 0 ", "halt  0", "0 0", "0 0 0", "halt00", "halt 00", "halt0 0", "halt 0 0 0", "halt 0 0 x", "halt 0 0 halt 0 0", "halt 0 0\nhalt 0 0", "halt,0,0", "0 halt 0", "0 0 halt", "halt halt halt", "halt 0 0;", "halt 0 0 # it ends"} {
		noText(t, s)
	}
}

func TestParseGreat(t *testing.T) { // P1502, P1
	const great = 1 << 20
	for _, x := range []string{"0", "1", "9", " ", "-", "+", "a", "halt", "halt ", "halt 0 0 ", "halt 0 0", "\x00", "\xff"} {
		s := strings.Repeat(x, great)
		for _, all := range []string{s, "halt " + s, "halt " + s + " 0", "halt 0 " + s, "halt 0 -" + s, "halt 0 0" + s, "halt 0 0 " + s, s + " 0 0", s + "halt 0 0", "halt 0 " + s + "1"} {
			noText(t, all)
		}
	}
}

func TestParseOfChanged(t *testing.T) { // P1502: a byte more, one less, another one, at every place of drawn texts
	const bytes = " 0123456789-+aehltxzAZ_.\t\n\x00\xff"
	for _, i := range drawn(60) {
		s := textOf(i)
		parses(t, s)
		for at := 0; at <= len(s); at++ {
			for b := range []byte(bytes) {
				parses(t, s[:at]+bytes[b:b+1]+s[at:])
				if at < len(s) {
					parses(t, s[:at]+bytes[b:b+1]+s[at+1:])
				}
			}
			if at < len(s) {
				parses(t, s[:at]+s[at+1:])
			}
			parses(t, s[:at])
			parses(t, s[at:])
			parses(t, s+s[at:])
		}
		parses(t, strings.ToUpper(s))
		parses(t, strings.ToUpper(s[:1])+s[1:])
	}
}

func TestParseOfAllShortNames(t *testing.T) { // P1502: no word of up to three letters but the operations'
	is := map[string]int{}
	for op, name := range names() {
		is[name] = op + 1
	}
	var try func(name string)
	try = func(name string) {
		i, e := isa.Parse(name + " 2 -3")
		if op := is[name] - 1; op >= 0 && (e != api.OK || i != in(op, 2, -3)) || op < 0 && (e != api.ErrWord || i != api.Instr{}) {
			t.Errorf("P1502: Parse(%q): %v, %v", name+" 2 -3", i, e)
		}
		if len(name) < 3 {
			for c := 'a'; c <= 'z'; c++ {
				try(name + string(c))
			}
		}
	}
	try("")
}

// modulo is n's rest from 0 on.
func modulo(n int, by int64) uint64 {
	return new(big.Int).Mod(big.NewInt(int64(n)), big.NewInt(by)).Uint64()
}

// wantPointer says EncodePointer once more, by sums.
func wantPointer(p api.Pointer) uint64 {
	return modulo(p.Ring, 8)*(1<<48) + modulo(p.Seg, 1<<16)*(1<<32) + modulo(p.Off, 1<<32)
}

// parts are numbers at the edges of a pointer's parts, and beyond.
func parts() []int {
	return []int{0, 1, 2, 3, 4, 5, 6, 7, 8, 9, 15, 16, 255, 256, 65534, 65535, 65536, 65537, 131071, 131072, 1<<31 - 1, 1 << 31, 1<<32 - 2, 1<<32 - 1, 1 << 32, 1<<32 + 1, 1 << 33, 1 << 40, 1 << 48, 0x123456789abcdef0, math.MaxInt64 - 1, math.MaxInt64,
		-1, -2, -7, -8, -9, -255, -256, -65535, -65536, -65537, -1 << 31, -1<<31 - 1, -1<<32 + 1, -1 << 32, -1<<32 - 1, -1 << 48, -0x123456789abcdef0, math.MinInt64, math.MinInt64 + 1}
}

func TestEncodePointer(t *testing.T) { // P1503
	for _, x := range []struct {
		p    api.Pointer
		want uint64
	}{
		{ptr(0, 0, 0), 0},
		{ptr(0, 1, 0), 1},
		{ptr(1, 0, 0), 0x0000000100000000},
		{ptr(0, 0, 1), 0x0001000000000000},
		{ptr(1, 2, 3), 0x0003000100000002},
		{ptr(0x1234, 0x56789abc, 5), 0x0005123456789abc},
		{ptr(65535, 1<<32-1, 7), 0x0007ffffffffffff},
		{ptr(65535, 0, 0), 0x0000ffff00000000},
		{ptr(0, 1<<32-1, 0), 0x00000000ffffffff},
		{ptr(0, 0, 7), 0x0007000000000000},
		{ptr(65536, 0, 0), 0}, {ptr(0, 1<<32, 0), 0}, {ptr(0, 0, 8), 0}, // each by one beyond
		{ptr(65537, 0, 0), 0x0000000100000000}, {ptr(0, 1<<32+1, 0), 1}, {ptr(0, 0, 9), 0x0001000000000000},
		{ptr(-1, 0, 0), 0x0000ffff00000000}, {ptr(0, -1, 0), 0x00000000ffffffff}, {ptr(0, 0, -1), 0x0007000000000000},
		{ptr(-65536, -1<<32, -8), 0}, {ptr(-65535, -1<<32+1, -7), 0x0001000100000001},
		{ptr(math.MinInt64, math.MinInt64, math.MinInt64), 0}, {ptr(math.MaxInt64, math.MaxInt64, math.MaxInt64), 0x0007ffffffffffff},
	} {
		if w := isa.EncodePointer(x.p); uint64(w) != x.want {
			t.Errorf("P1503: EncodePointer(%v): %016x, not %016x", x.p, uint64(w), x.want)
		}
	}
	for _, seg := range parts() {
		for _, off := range parts() {
			for _, ring := range parts() {
				p := ptr(seg, off, ring)
				if w := isa.EncodePointer(p); uint64(w) != wantPointer(p) {
					t.Fatalf("P1503: EncodePointer(%v): %016x, not %016x", p, uint64(w), wantPointer(p))
				}
			}
		}
	}
}

// pointerOf says DecodePointer once more, by the digits of its bits.
func pointerOf(w uint64) api.Pointer {
	digits := fmt.Sprintf("%064b", w) // digit k is bit 63 - k
	number := func(s string) int {
		n := 0
		for _, c := range s {
			n = 2*n + int(c-'0')
		}
		return n
	}
	return ptr(number(digits[16:32]), number(digits[32:]), number(digits[13:16]))
}

func TestDecodePointer(t *testing.T) { // P1503
	for _, x := range []struct {
		w    uint64
		want api.Pointer
	}{
		{0, ptr(0, 0, 0)},
		{1, ptr(0, 1, 0)},
		{0x0003000100000002, ptr(1, 2, 3)},
		{0x0005123456789abc, ptr(0x1234, 0x56789abc, 5)},
		{0x0007ffffffffffff, ptr(65535, 1<<32-1, 7)},
		{0x0000000080000000, ptr(0, 1<<31, 0)}, // no part has a sign
		{0x0000800000000000, ptr(32768, 0, 0)},
		{0x0004000000000000, ptr(0, 0, 4)},
		{0xffffffffffffffff, ptr(65535, 1<<32-1, 7)},
		{0x8000000000000000, ptr(0, 0, 0)},
		{0x7fffffffffffffff, ptr(65535, 1<<32-1, 7)},
		{0xfff8000000000000, ptr(0, 0, 0)},
		{0xfffb000100000002, ptr(1, 2, 3)},
	} {
		if p := isa.DecodePointer(int64(x.w)); p != x.want {
			t.Errorf("P1503: DecodePointer(%016x): %v, not %v", x.w, p, x.want)
		}
	}
	for bit := range 64 { // each by itself: those above 50 say nothing
		w := uint64(1) << bit
		if p := isa.DecodePointer(int64(w)); p != pointerOf(w) || (p == api.Pointer{}) != (bit > 50) {
			t.Errorf("P1503: DecodePointer of bit %d: %v", bit, p)
		}
		if p := isa.DecodePointer(int64(^w)); p != pointerOf(^w) {
			t.Errorf("P1503: DecodePointer of all but bit %d: %v", bit, p)
		}
	}
	r := rand.New(rand.NewPCG(15, 3))
	for range 20000 {
		w := r.Uint64()
		p := isa.DecodePointer(int64(w))
		if p != pointerOf(w) {
			t.Fatalf("P1503: DecodePointer(%016x): %v, not %v", w, p, pointerOf(w))
		}
		if back := isa.EncodePointer(p); uint64(back) != w&(1<<51-1) {
			t.Fatalf("P1503: EncodePointer(%v): %016x, of %016x", p, uint64(back), w)
		}
	}
}

func TestPointersThatFit(t *testing.T) { // P1503: what fits is read as it was written
	r := rand.New(rand.NewPCG(15, 4))
	for range 20000 {
		p := ptr(r.IntN(1<<16), r.IntN(1<<32), r.IntN(8))
		if got := isa.DecodePointer(isa.EncodePointer(p)); got != p {
			t.Fatalf("P1503: %v is read as %v", p, got)
		}
	}
	for ring := range 8 {
		for _, seg := range []int{0, 1, 65534, 65535} {
			for _, off := range []int{0, 1, 1<<31 - 1, 1 << 31, 1<<32 - 2, 1<<32 - 1} {
				p := ptr(seg, off, ring)
				if got := isa.DecodePointer(isa.EncodePointer(p)); got != p {
					t.Errorf("P1503: %v is read as %v", p, got)
				}
			}
		}
	}
}

func TestThereAndBack(t *testing.T) { // P1504
	words, texts := map[int64]api.Instr{}, map[string]api.Instr{}
	back := func(i api.Instr) {
		w, e := isa.Encode(i)
		if e != api.OK {
			t.Fatalf("P1504: Encode(%v): %v", i, e)
		}
		if got, e := isa.Decode(w); e != api.OK || got != i {
			t.Fatalf("P1504: %v is decoded as %v, %v", i, got, e)
		}
		s := isa.Text(i)
		if got, e := isa.Parse(s); e != api.OK || got != i {
			t.Fatalf("P1504: %v is read as %v, %v", i, got, e)
		}
		if old, is := words[w]; is && old != i {
			t.Fatalf("P1504: %v and %v are one word", old, i)
		}
		if old, is := texts[s]; is && old != i {
			t.Fatalf("P1504: %v and %v are one text", old, i)
		}
		words[w], texts[s] = i, i
	}
	every(back)
	for _, i := range drawn(50000) {
		back(i)
	}
}

func TestSameAgain(t *testing.T) { // P3: nothing is kept from call to call
	for _, i := range drawn(200) {
		w, _ := isa.Encode(i)
		s := isa.Text(i)
		isa.Encode(in(-1, -1, -1))
		isa.Decode(-1)
		isa.Parse("halt 0 x")
		isa.Text(in(99, 99, 99))
		isa.EncodePointer(ptr(-1, -1, -1))
		if again, e := isa.Encode(i); e != api.OK || again != w || isa.Text(i) != s {
			t.Fatalf("P3: of %v: %x, then %x, %v", i, w, again, e)
		}
	}
}
