package hash_test

import (
	"bytes"
	"hash/fnv"
	"math"
	"math/big"
	"math/rand/v2"
	"slices"
	"strings"
	"testing"

	"donjon/hash"
)

const begin = 14695981039346656037

// wantChain tells P801 with whole numbers without bounds, cut to 2^64 by a division.
func wantChain(h uint64, b []byte) uint64 {
	x := new(big.Int).SetUint64(h)
	times, end := big.NewInt(1099511628211), new(big.Int).Lsh(big.NewInt(1), 64)
	for _, c := range b {
		x.Xor(x, big.NewInt(int64(c)))
		x.Mul(x, times)
		x.Mod(x, end)
	}
	return x.Uint64()
}

// saltBytes are a salt's eight, the highest first, by divisions of the salt modulo 2^64.
func saltBytes(salt int) []byte {
	x := big.NewInt(int64(salt))
	x.Mod(x, new(big.Int).Lsh(big.NewInt(1), 64))
	return x.FillBytes(make([]byte, 8))
}

func wantOf(salt int, s string) uint64 {
	return wantChain(begin, append(saltBytes(salt), s...))
}

// numbers are those at the edges, and others that look like nothing, the same ones in each run.
func numbers() []uint64 {
	out := []uint64{0, 1, 2, 127, 128, 255, 256, 1099511628211, begin, 1<<32 - 1, 1 << 32, 1<<63 - 1, 1 << 63, 1<<63 + 1, math.MaxUint64 - 255, math.MaxUint64 - 1, math.MaxUint64}
	r := rand.New(rand.NewPCG(8, 1))
	for range 20 {
		out = append(out, r.Uint64())
	}
	return out
}

// rows are rows of bytes: short and long ones, of one byte, of all, of noughts.
func rows() [][]byte {
	out := [][]byte{nil, {}, {0}, {255}, {0, 0}, {0, 1}, {1, 0}, {255, 255}, {128, 127}, bytes.Repeat([]byte{0}, 17), bytes.Repeat([]byte{255}, 17), []byte("a"), []byte("ab"), []byte("ba"), []byte("foobar"), []byte("é日\U0001f600"), []byte("a\xffb\xc3"), all()}
	r := rand.New(rand.NewPCG(8, 2))
	for n := range 70 {
		row := make([]byte, n)
		for i := range row {
			row[i] = byte(r.Uint32())
		}
		out = append(out, row)
	}
	return out
}

// all is every byte, in order.
func all() []byte {
	var out []byte
	for c := range 256 {
		out = append(out, byte(c))
	}
	return out
}

// salts are those at the edges, such as have one byte alone, and others.
func salts() []int {
	out := []int{0, 1, -1, 2, -2, 127, 128, 255, 256, -255, -256, -257, math.MinInt, math.MinInt + 1, math.MaxInt, math.MaxInt - 1, math.MinInt32, math.MaxInt32}
	for i := range 8 {
		for _, c := range []uint64{1, 127, 128, 255} {
			out = append(out, int(c<<(8*i)), int(^(c << (8 * i))))
		}
	}
	told := uint64(0x0102030405060708)
	out = append(out, int(told), int(^told))
	r := rand.New(rand.NewPCG(8, 3))
	for range 20 {
		out = append(out, int(r.Uint64()))
	}
	return out
}

// words are texts and what is none, each once.
func words() []string {
	out := []string{"", "\x00", "\x00\x00", "a", "b", "ab", "ba", "secret", "Secret", " secret", "secret ", "\xff", "\xfe", "\xff\xfe", "\x80", "\xc3", "\xa9", "é", "e\u0301", "日本", "\xe6\x97", "\U0001f600", "\xf0\x9f\x98", "\xed\xa0\x80", "\ufffd", "\ufffd\ufffd", "a\xffb", "a\ufffdb", "\ufeffa", "\n", strings.Repeat("x", 1000)}
	for c := range 256 {
		out = append(out, "w"+string([]byte{byte(c)})+"z")
	}
	return out
}

func TestChainExamples(t *testing.T) { // P801, and the chapter's example
	for s, want := range map[string]uint64{
		"":                                 begin,
		"a":                                0xaf63dc4c8601ec8c,
		"b":                                0xaf63df4c8601f1a5,
		"fo":                               0x08985907b541d342,
		"foo":                              0xdcb27518fed9d577,
		"foobar":                           0x85944171f73967e8,
		"\xd5\x6b\xb9\x53\x42\x87\x08\x36": 0,
	} {
		if h := hash.Chain(begin, []byte(s)); h != want {
			t.Errorf("P801: Chain by %q: %x, not %x", s, h, want)
		}
	}
}

func TestChainEdges(t *testing.T) { // P801
	for _, c := range []struct {
		h    uint64
		b    []byte
		want uint64
	}{
		{0, []byte{0}, 0},
		{0, []byte{0, 0, 0}, 0},
		{0, []byte{1}, 1099511628211},
		{1, []byte{0}, 1099511628211},
		{1, []byte{1}, 0},
		{255, []byte{255}, 0},
		{256, []byte{255}, 511 * 1099511628211},
		{0, []byte{255}, 255 * 1099511628211},
		{math.MaxUint64, []byte{0}, math.MaxUint64 - 1099511628211 + 1},
		{math.MaxUint64, []byte{255}, math.MaxUint64 - 256*1099511628211 + 1},
		{1 << 63, []byte{0}, 1 << 63},
	} {
		if h := hash.Chain(c.h, c.b); h != c.want {
			t.Errorf("P801: Chain(%d, %v): %d, not %d", c.h, c.b, h, c.want)
		}
	}
}

func TestChainOfNone(t *testing.T) { // P801, P2: nil and an empty row are the same
	for _, h := range numbers() {
		for _, b := range [][]byte{nil, {}, make([]byte, 0, 8), []byte("abc")[3:]} {
			if x := hash.Chain(h, b); x != h {
				t.Errorf("P801: Chain(%d, none): %d", h, x)
			}
		}
	}
}

func TestChainBytes(t *testing.T) { // P801
	for _, h := range numbers() {
		for c := range 256 {
			x := byte(c)
			for _, b := range [][]byte{{x}, {x, 0}, {0, x}, {x, x}, {x, 255, x}} {
				if got, want := hash.Chain(h, b), wantChain(h, b); got != want {
					t.Errorf("P801: Chain(%d, %v): %d, not %d", h, b, got, want)
				}
			}
		}
	}
}

func TestChainRows(t *testing.T) { // P801
	for _, b := range rows() {
		for _, h := range numbers() {
			if got, want := hash.Chain(h, b), wantChain(h, b); got != want {
				t.Errorf("P801: Chain(%d, %v): %d, not %d", h, b, got, want)
			}
		}
		known := fnv.New64a()
		known.Write(b)
		if got := hash.Chain(begin, b); got != known.Sum64() {
			t.Errorf("P801: Chain of the beginning by %v: %d, not %d", b, got, known.Sum64())
		}
	}
}

func TestChainLong(t *testing.T) { // P801, P1
	b := bytes.Repeat(all(), 1<<14)
	known := fnv.New64a()
	known.Write(b)
	if hash.Chain(begin, b) != known.Sum64() {
		t.Error("P801: Chain by 4 MiB")
	}
	known = fnv.New64a()
	known.Write(saltBytes(-3))
	known.Write(b)
	if hash.Of(-3, string(b)) != known.Sum64() {
		t.Error("P801: Of 4 MiB")
	}
}

func TestOf(t *testing.T) { // P801
	for _, salt := range salts() {
		for _, s := range words() {
			got := hash.Of(salt, s)
			if want := wantOf(salt, s); got != want {
				t.Errorf("P801: Of(%d, %.40q): %x, not %x", salt, s, got, want)
			}
			if want := hash.Chain(hash.Chain(begin, saltBytes(salt)), []byte(s)); got != want {
				t.Errorf("P801: Of(%d, %.40q): %x, but by Chain %x", salt, s, got, want)
			}
		}
	}
}

func TestOfSaltBytes(t *testing.T) { // P801: the bytes written out, without a division
	told := uint64(0xfedcba9876543210)
	for _, c := range []struct {
		salt  int
		front string
	}{
		{0, "\x00\x00\x00\x00\x00\x00\x00\x00"},
		{1, "\x00\x00\x00\x00\x00\x00\x00\x01"},
		{-1, "\xff\xff\xff\xff\xff\xff\xff\xff"},
		{-2, "\xff\xff\xff\xff\xff\xff\xff\xfe"},
		{256, "\x00\x00\x00\x00\x00\x00\x01\x00"},
		{math.MinInt64, "\x80\x00\x00\x00\x00\x00\x00\x00"},
		{math.MaxInt64, "\x7f\xff\xff\xff\xff\xff\xff\xff"},
		{int(told), "\xfe\xdc\xba\x98\x76\x54\x32\x10"},
	} {
		for _, s := range []string{"", "a", "secret", "\x00", "é", "\xff"} {
			if got, want := hash.Of(c.salt, s), wantChain(begin, []byte(c.front+s)); got != want {
				t.Errorf("P801: Of(%d, %q): %x, not %x", c.salt, s, got, want)
			}
		}
	}
}

func TestOfSaltsDiffer(t *testing.T) { // P801: each of a salt's bytes counts
	for _, from := range []uint64{0, math.MaxUint64, 1 << 63, 1<<63 - 1, 0x0102030405060708} {
		for _, s := range []string{"", "a", "secret", "\xff\x00"} {
			for i := range 8 {
				seen := map[uint64]int{}
				for c := range 256 {
					salt := int(from&^(255<<(8*i)) | uint64(c)<<(8*i))
					h := hash.Of(salt, s)
					if other, ok := seen[h]; ok {
						t.Errorf("P801: Of(%d, %q) and Of(%d, %q) are both %x", salt, s, other, s, h)
					}
					seen[h] = salt
				}
			}
		}
	}
}

func TestOfWordsDiffer(t *testing.T) { // P801: bytes, not signs, and none is dropped
	for _, salt := range salts() {
		seen := map[uint64]string{}
		for _, s := range words() {
			h := hash.Of(salt, s)
			if other, ok := seen[h]; ok {
				t.Errorf("P801: with the salt %d %.40q and %.40q are both %x", salt, s, other, h)
			}
			seen[h] = s
		}
	}
}

func TestChainParted(t *testing.T) { // P802
	for _, b := range rows() {
		for _, h := range numbers() {
			whole := hash.Chain(h, b)
			for i := range len(b) + 1 {
				if x := hash.Chain(hash.Chain(h, b[:i]), b[i:]); x != whole {
					t.Errorf("P802: Chain(%d, %v), parted at %d: %d, not %d", h, b, i, x, whole)
				}
			}
			x := h
			for i := range b {
				x = hash.Chain(x, b[i:i+1])
			}
			if x != whole {
				t.Errorf("P802: Chain(%d, %v), byte by byte: %d, not %d", h, b, x, whole)
			}
		}
	}
}

func TestOfParted(t *testing.T) { // P802, of Of: within a sign too
	for _, salt := range salts() {
		for _, s := range words() {
			whole := hash.Of(salt, s)
			for i := range min(len(s), 12) + 1 {
				if x := hash.Chain(hash.Of(salt, s[:i]), []byte(s[i:])); x != whole {
					t.Errorf("P802: Of(%d, %.40q), parted at %d: %x, not %x", salt, s, i, x, whole)
				}
			}
		}
	}
}

func TestLastByteDiffers(t *testing.T) { // P802
	for _, b := range rows() {
		for _, h := range numbers() {
			seen := map[uint64]int{}
			for c := range 256 {
				x := hash.Chain(h, append(slices.Clone(b), byte(c)))
				if other, ok := seen[x]; ok {
					t.Errorf("P802: Chain(%d, %v), then by %d and by %d, are both %d", h, b, c, other, x)
				}
				seen[x] = c
			}
		}
	}
}

func TestChainLeavesBytes(t *testing.T) { // P2, the spare room too
	for _, b := range rows() {
		room := append(append([]byte("ahead"), b...), "behind"...)
		was := slices.Clone(room)
		for _, h := range numbers() {
			hash.Chain(h, room[5:5+len(b)])
			if !bytes.Equal(room, was) {
				t.Fatalf("P2: Chain(%d, %v) changes what it is handed", h, b)
			}
		}
	}
}

func TestNothingKept(t *testing.T) { // P2, P3
	b := []byte("secret")
	first, of := hash.Chain(begin, b), hash.Of(7, "secret")
	b[0] = 'S'
	if x := hash.Chain(begin, b); x != wantChain(begin, []byte("Secret")) {
		t.Errorf("P2: Chain by changed bytes: %x", x)
	}
	b[0] = 's'
	for range 3 {
		hash.Of(-7, "other")
		hash.Chain(0, []byte("other"))
		if x := hash.Chain(begin, b); x != first {
			t.Errorf("P3: Chain again: %x, not %x", x, first)
		}
		if x := hash.Of(7, "secret"); x != of {
			t.Errorf("P3: Of again: %x, not %x", x, of)
		}
	}
}
