package path_test

import (
	"math/rand/v2"
	"slices"
	"strings"
	"testing"

	"donjon/api"
	"donjon/path"
)

const letters = "abcdefghijklmnopqrstuvwxyz0123456789"

// short keeps a failure's printout within a line.
func short(s string) string {
	if len(s) > 100 {
		return s[:100] + ".."
	}
	return s
}

// deep is a path of so many names of so many bytes each.
func deep(names, bytes int) string {
	return strings.Repeat("/"+strings.Repeat("k", bytes), names)
}

// wantCheck tells P701 byte by byte, without the package's own words.
func wantCheck(s string) api.Errno {
	switch {
	case len(s) > 78:
		return api.ErrLong
	case s == "/":
		return api.OK
	case len(s) == 0 || s[0] != '/':
		return api.ErrArg
	}
	names, run := 0, 1
	for i := 0; i < len(s); i++ {
		switch {
		case s[i] == '/' && run > 0:
			names, run = names+1, 0
		case s[i] != '/' && strings.IndexByte(letters, s[i]) >= 0:
			run++
		default:
			return api.ErrArg
		}
		if names > 6 || run > 12 {
			return api.ErrArg
		}
	}
	if run == 0 {
		return api.ErrArg
	}
	return api.OK
}

// texts are all texts of up to so many of the pieces.
func texts(pieces []string, most int) []string {
	out := []string{""}
	for from, n := 0, 0; n < most; n++ {
		to := len(out)
		for ; from < to; from++ {
			for _, p := range pieces {
				out = append(out, out[from]+p)
			}
		}
	}
	return out
}

// allowed are paths that Check must allow: all of up to four of some names that are fronts of each other, and the edges.
func allowed() []string {
	out := []string{"/"}
	for _, s := range texts([]string{"/a", "/ab", "/b", "/0"}, 4) {
		if s != "" {
			out = append(out, s)
		}
	}
	for n := 1; n <= 6; n++ {
		for _, b := range []int{1, 2, 11, 12} {
			out = append(out, deep(n, b))
		}
	}
	return append(out, "/a/b/c/d/e/f", "/a/b/c/d/e/ff", "/abcdefghij01/z/9", "/klmnopqrstuv/wxyz23456789")
}

// noPaths are texts that no path is, each of at most 78 bytes.
func noPaths() []string {
	return []string{"", "//", "///", "a", "ab", "a/", "a/b", "/a/", "/a//", "//a", "/a//b", "/a/b/", "/ ", "/ a", "/a ", " /a", "/.", "/..", "/a/..", "/./a", "./a", "../a", `\a`, `/a\b`, "/A", "/aB", "/a-b", "/a_b", "/a.b", "/a*", "/*", "*", "/a\n", "/a\x00", "\x00", "/\x00", "/\xff", "/a\xff", "\xff/a", "/\xc3", "/\xc3/a", "é", "/é", "/aé", "/éa", "/日", "/ａ", "/١", "∕a", "/a∕b", "／a", "/\u00ad", "/a\u0301", "\ufffd", "/\ufffd", "\ufeff/a", deep(7, 1), deep(1, 13), deep(6, 1) + "/", deep(5, 12) + "/", deep(6, 12)[:77] + "/", strings.Repeat("/", 7), strings.Repeat("/", 78), strings.Repeat("x", 78), strings.Repeat("\xff", 78), strings.Repeat("é", 39)}
}

func TestNameBytes(t *testing.T) { // P701
	for c := range 256 {
		x := string([]byte{byte(c)})
		want := strings.Contains(letters, x)
		for _, s := range []string{x, x + "a", "a" + x, "a" + x + "z", x + x, x + strings.Repeat("0", 11), strings.Repeat("z", 6) + x + "99999", strings.Repeat("q", 11) + x} {
			if path.Name(s) != want {
				t.Errorf("P701: Name of %q: %v", s, !want)
			}
		}
	}
}

func TestNameLengths(t *testing.T) { // P701
	for n := range 300 {
		for _, c := range []string{"a", "z", "0", "9", "m"} {
			if want := n >= 1 && n <= 12; path.Name(strings.Repeat(c, n)) != want {
				t.Errorf("P701: Name of %d bytes: %v", n, !want)
			}
		}
	}
	if path.Name(strings.Repeat("a", 1<<20)) {
		t.Error("P701: Name of a MiB")
	}
}

func TestNameSigns(t *testing.T) { // P701
	// Signs of several bytes, some of which have a letter's or digit's number below their highest bytes, and bytes that are none.
	for _, x := range []string{"é", "ß", "日", "ａ", "０", "١", "š", "\u0161", "\u0261", "\u0130", "\u2061", "\U00010061", "\U0001f600", "\ufffd", "\u0000", "\u0080", "a\u0301", "\xc3", "\xa9", "\xc3\x28", "\xe6\x97", "\xf0\x9f\x98", "\xc1\xa1", "\xe0\x81\xa1", "\xed\xa0\x80", "\xf4\x90\x80\x80", "\xff\xfe"} {
		for _, s := range []string{x, "a" + x, x + "a", "a" + x + "0"} {
			if path.Name(s) {
				t.Errorf("P701: Name of %q", s)
			}
			if e := path.Check("/" + s); e != api.ErrArg {
				t.Errorf("P701: Check of %q: %v", "/"+s, e)
			}
		}
	}
	for _, s := range []string{"a/b", "/a", "a/", "/", " a", "a ", "*", "a.b", "a\n", "A", "Ab", "aB"} {
		if path.Name(s) {
			t.Errorf("P701: Name of %q", s)
		}
	}
	for _, s := range []string{"abcdefghijkl", "mnopqrstuvwx", "yz0123456789", "0", "9z", "root"} {
		if !path.Name(s) {
			t.Errorf("P701: Name refuses %q", s)
		}
	}
}

func TestCheckAllows(t *testing.T) { // P701
	for _, s := range allowed() {
		if e := path.Check(s); e != api.OK {
			t.Errorf("P701: Check of %q: %v", s, e)
		}
	}
}

func TestCheckRefuses(t *testing.T) { // P701
	for _, s := range noPaths() {
		if len(s) > 78 {
			t.Fatalf("%q is too long for this test", s)
		}
		if e := path.Check(s); e != api.ErrArg {
			t.Errorf("P701: Check of %q: %v", s, e)
		}
	}
}

func TestCheckLong(t *testing.T) { // P701, P6: ErrLong where both would do
	full := deep(6, 12)
	for _, x := range []struct {
		s    string
		want api.Errno
	}{
		{full[:77], api.OK},
		{full, api.OK},
		{full + "k", api.ErrLong}, // the last name has a byte too much, too
		{full + "/", api.ErrLong},
		{full + "\xff", api.ErrLong},
		{deep(6, 12)[1:], api.ErrArg},               // 77 bytes
		{deep(6, 12)[1:] + "k", api.ErrArg},         // 78
		{deep(6, 12)[1:] + "kk", api.ErrLong},       // 79
		{deep(26, 2), api.ErrArg},                   // 78 bytes, 26 names
		{deep(26, 2) + "k", api.ErrLong},            // 79
		{deep(7, 10) + "k", api.ErrArg},             // 78 bytes, 7 names
		{deep(7, 10) + "kk", api.ErrLong},           // 79
		{"/" + strings.Repeat("k", 77), api.ErrArg}, // one name
		{"/" + strings.Repeat("k", 78), api.ErrLong},
		{strings.Repeat("/", 77), api.ErrArg},
		{strings.Repeat("/", 78), api.ErrArg},
		{strings.Repeat("/", 79), api.ErrLong},
		{strings.Repeat("é", 39), api.ErrArg},           // 78 bytes of 39 signs
		{strings.Repeat("é", 40), api.ErrLong},          // 80 bytes of 40
		{strings.Repeat("\U0001f600", 20), api.ErrLong}, // 80 bytes of 20
		{strings.Repeat("\x00", 79), api.ErrLong},
		{deep(6, 12) + strings.Repeat("k", 256), api.ErrLong},
		{strings.Repeat("/a", 1<<20), api.ErrLong},
		{strings.Repeat("x", 1<<20), api.ErrLong},
	} {
		if e := path.Check(x.s); e != x.want {
			t.Errorf("P701: Check of %d bytes, %q: %v, not %v", len(x.s), short(x.s), e, x.want)
		}
	}
}

func TestCheckDepthsAndLengths(t *testing.T) { // P701
	for names := range 12 {
		for bytes := range 20 {
			s := deep(names, bytes)
			want := wantCheck(s)
			if e := path.Check(s); e != want {
				t.Errorf("P701: Check of %d names of %d bytes: %v, not %v", names, bytes, e, want)
			}
			if (want == api.OK) != (names >= 1 && names <= 6 && bytes >= 1 && bytes <= 12 || names == 1 && bytes == 0) {
				t.Errorf("the test's own telling of %d names of %d bytes: %v", names, bytes, want)
			}
		}
	}
	for at := range 6 { // the wrong name at each place
		for _, bad := range []string{"", "kkkkkkkkkkkkk", "K", "\xff", "é"} {
			l := []string{"a", "b", "c", "d", "e", "f"}
			l[at] = bad
			if s := "/" + strings.Join(l, "/"); path.Check(s) != api.ErrArg {
				t.Errorf("P701: Check of %q: %v", s, path.Check(s))
			}
		}
	}
}

func TestCheckBytes(t *testing.T) { // P701
	for c := range 256 {
		x := string([]byte{byte(c)})
		for _, s := range []string{x, "/" + x, x + "/a", x + "a", "/a" + x, "/a" + x + "b", "/" + x + "a", "/a/" + x, "/a/b" + x + "/c", deep(6, 12)[:77] + x, deep(6, 11) + x} {
			if e, want := path.Check(s), wantCheck(s); e != want {
				t.Errorf("P701: Check of %q: %v, not %v", s, e, want)
			}
		}
	}
}

func TestCheckAllShort(t *testing.T) { // P701: every text of up to 6 of these
	for _, s := range texts([]string{"/", "a", "0", "A", "\xff", "é", "kkkkkkkkkkk"}, 6) {
		if e, want := path.Check(s), wantCheck(s); e != want {
			t.Errorf("P701: Check of %q: %v, not %v", short(s), e, want)
		}
	}
}

func TestCheckMany(t *testing.T) { // P701: texts that are nearly paths
	r := rand.New(rand.NewPCG(7, 701))
	seen := map[api.Errno]int{}
	for range 200000 {
		var b strings.Builder
		for range r.IntN(9) {
			b.WriteString("/")
			for range 1 + r.IntN(13) {
				b.WriteByte(letters[r.IntN(len(letters))])
			}
		}
		s := b.String()
		if r.IntN(2) == 0 && s != "" { // one byte of it is another one, or none
			i := r.IntN(len(s))
			s = s[:i] + []string{"", "/", "a", "Z", "\x80"}[r.IntN(5)] + s[i+1:]
		}
		e, want := path.Check(s), wantCheck(s)
		if seen[want]++; e != want {
			t.Fatalf("P701: Check of %q: %v, not %v", short(s), e, want)
		}
	}
	if seen[api.OK] < 1000 || seen[api.ErrArg] < 1000 || seen[api.ErrLong] < 1000 {
		t.Errorf("the test's texts are lopsided: %v", seen)
	}
}

func TestPieces(t *testing.T) { // P702
	for _, x := range []struct {
		s, parent, last string
		parts           []string
	}{
		{"/", "", "", nil},
		{"/a", "/", "a", []string{"a"}},
		{"/9", "/", "9", []string{"9"}},
		{"/kkkkkkkkkkkk", "/", "kkkkkkkkkkkk", []string{"kkkkkkkkkkkk"}},
		{"/a/b", "/a", "b", []string{"a", "b"}},
		{"/a/a", "/a", "a", []string{"a", "a"}},
		{"/a/bc/d", "/a/bc", "d", []string{"a", "bc", "d"}},
		{"/z0/9/z0/9", "/z0/9/z0", "9", []string{"z0", "9", "z0", "9"}},
		{"/a/b/c/d/e/f", "/a/b/c/d/e", "f", []string{"a", "b", "c", "d", "e", "f"}},
		{deep(6, 12), deep(5, 12), "kkkkkkkkkkkk", slices.Repeat([]string{"kkkkkkkkkkkk"}, 6)},
	} {
		if l := path.Parts(x.s); !slices.Equal(l, x.parts) {
			t.Errorf("P702: Parts of %q: %q", x.s, l)
		}
		if p := path.Parent(x.s); p != x.parent {
			t.Errorf("P702: Parent of %q: %q", x.s, p)
		}
		if n := path.Last(x.s); n != x.last {
			t.Errorf("P702: Last of %q: %q", x.s, n)
		}
	}
}

func TestJoin(t *testing.T) { // P702
	for _, x := range [][3]string{{"/", "a", "/a"}, {"/", "kkkkkkkkkkkk", "/kkkkkkkkkkkk"}, {"/a", "b", "/a/b"}, {"/a", "a", "/a/a"}, {"/a/b", "c0", "/a/b/c0"}, {"/a/b/c/d/e", "f", "/a/b/c/d/e/f"}, {deep(5, 12), "kkkkkkkkkkkk", deep(6, 12)}, {deep(6, 1), "g", deep(6, 1) + "/g"}, {deep(6, 12), "g", deep(6, 12) + "/g"}} {
		if s := path.Join(x[0], x[1]); s != x[2] {
			t.Errorf("P702: Join of %q and %q: %q", x[0], x[1], s)
		}
	}
}

func TestPiecesOfAll(t *testing.T) { // P702, held to P701's words
	for _, s := range allowed() {
		l := path.Parts(s)
		if want := strings.Count(s, "/"); s != "/" && len(l) != want || s == "/" && len(l) != 0 {
			t.Errorf("P702: Parts of %q: %q", s, l)
		}
		for _, name := range l {
			if !path.Name(name) {
				t.Errorf("P702: Parts of %q: %q is no name", s, name)
			}
		}
		if whole := "/" + strings.Join(l, "/"); whole != s {
			t.Errorf("P702: Parts of %q: %q", s, l)
		}
		if s == "/" {
			continue
		}
		if e := path.Check(path.Parent(s)); e != api.OK {
			t.Errorf("P702: Parent of %q: %q", s, path.Parent(s))
		}
		if path.Last(s) != l[len(l)-1] {
			t.Errorf("P702: Last of %q: %q", s, path.Last(s))
		}
		if !slices.Equal(path.Parts(path.Parent(s)), l[:len(l)-1]) {
			t.Errorf("P702: Parts of %q's Parent: %q", s, path.Parts(path.Parent(s)))
		}
	}
}

func TestJoinOfParentAndLast(t *testing.T) { // P703
	for _, s := range allowed() {
		if x := path.Join(path.Parent(s), path.Last(s)); x != s {
			t.Errorf("P703: of %q Join of Parent and Last is %q", s, x)
		}
		x := "/"
		for _, name := range path.Parts(s) {
			y := path.Join(x, name)
			if path.Parent(y) != x || path.Last(y) != name {
				t.Errorf("P703: Parent and Last of Join of %q and %q: %q, %q", x, name, path.Parent(y), path.Last(y))
			}
			x = y
		}
		if x != s {
			t.Errorf("P703: of %q the Parts, joined from / on, are %q", s, x)
		}
		up := 0
		for x = s; x != "/" && up < 9; x = path.Parent(x) {
			up++
		}
		if up != len(path.Parts(s)) {
			t.Errorf("P703: from %q up to / in %d steps", s, up)
		}
	}
}

func TestManyPieces(t *testing.T) { // P702, P703: paths made of names that the test knows
	r := rand.New(rand.NewPCG(7, 702))
	for range 20000 {
		l := make([]string, 1+r.IntN(6))
		for i := range l {
			b := make([]byte, 1+r.IntN(12))
			for j := range b {
				b[j] = letters[r.IntN(len(letters))]
			}
			l[i] = string(b)
		}
		s := "/" + strings.Join(l, "/")
		n := len(l) - 1
		if path.Check(s) != api.OK || !slices.Equal(path.Parts(s), l) || path.Parent(s) != "/"+strings.Join(l[:n], "/") || path.Last(s) != l[n] {
			t.Fatalf("P702: %q: %v, %q, %q, %q", s, path.Check(s), path.Parts(s), path.Parent(s), path.Last(s))
		}
		if x := path.Join(path.Parent(s), path.Last(s)); x != s {
			t.Fatalf("P703: of %q Join of Parent and Last is %q", s, x)
		}
		if k := r.IntN(len(l)); !path.In(s, "/"+strings.Join(l[:k], "/")) || path.In("/"+strings.Join(l[:k], "/"), s) {
			t.Fatalf("P702: In of %q and its first %d names", s, k)
		}
	}
}

func TestIn(t *testing.T) { // P702
	for _, x := range []struct {
		s, above string
		want     bool
	}{
		{"/a", "/", true},
		{"/", "/", false},
		{"/", "/a", false},
		{"/a", "/a", false},
		{"/ab", "/a", false},
		{"/a", "/ab", false},
		{"/ab/c", "/a", false},
		{"/ab/c", "/ab", true},
		{"/a/b", "/a", true},
		{"/a/b", "/b", false},
		{"/b/a", "/a", false},
		{"/a/b/c", "/a", true},
		{"/a/b/c", "/a/b", true},
		{"/a/b/c", "/b/c", false},
		{"/a/b/c", "/a/c", false},
		{"/a/b/c", "/a/b/c", false},
		{"/a/b/c", "/a/b/c/d", false},
		{"/a/bc", "/a/b", false},
		{"/a/b", "/a/bc", false},
		{"/a/a", "/a", true},
		{"/a/a/a", "/a/a", true},
		{deep(6, 12), deep(5, 12), true},
		{deep(6, 12), deep(6, 12), false},
		{deep(6, 12), deep(5, 11), false},
		{deep(6, 1), "/", true},
	} {
		if path.In(x.s, x.above) != x.want {
			t.Errorf("P702: In of %q and %q: %v", x.s, x.above, !x.want)
		}
	}
}

func TestInOfAll(t *testing.T) { // P702: by the names of both, over all pairs
	all := allowed()
	for _, s := range all {
		if path.In(s, s) || path.In(s, "/") != (s != "/") || path.In("/", s) {
			t.Errorf("P702: In of %q and itself, or /", s)
		}
		names := strings.FieldsFunc(s, func(r rune) bool { return r == '/' })
		for _, above := range all {
			front := strings.FieldsFunc(above, func(r rune) bool { return r == '/' })
			want := len(names) > len(front) && slices.Equal(names[:len(front)], front)
			if path.In(s, above) != want {
				t.Errorf("P702: In of %q and %q: %v", s, above, !want)
			}
			up := path.Parent(s) // what s lies in are its Parent, and what that lies in
			if path.In(s, above) != (up != "" && (up == above || path.In(up, above))) {
				t.Errorf("P702: In of %q and %q is not as that of its Parent", s, above)
			}
		}
	}
}

func TestInThrough(t *testing.T) { // P702: what lies in a path that lies in a third one lies in that
	all := append(texts([]string{"/a", "/ab", "/b"}, 3)[1:], "/")
	for _, a := range all {
		for _, b := range all {
			if !path.In(a, b) {
				continue
			}
			if path.In(b, a) {
				t.Errorf("P702: %q and %q lie in each other", a, b)
			}
			for _, c := range all {
				if path.In(b, c) && !path.In(a, c) {
					t.Errorf("P702: %q is in %q, that in %q", a, b, c)
				}
			}
		}
	}
}

func TestPartsAreTheCallers(t *testing.T) { // P2
	for _, s := range allowed() {
		a, b := path.Parts(s), path.Parts(s)
		want := slices.Clone(b)
		for i := range a[:cap(a)] {
			a[:cap(a)][i] = "x"
		}
		_ = append(a, "y")
		if !slices.Equal(b, want) || !slices.Equal(path.Parts(s), want) || path.Check(s) != api.OK {
			t.Errorf("P2: Parts of %q changed with what was told ahead: %q, %q", s, b, path.Parts(s))
		}
	}
}

func TestSameAgain(t *testing.T) { // P3
	for range 2 {
		for _, s := range append(allowed(), noPaths()...) {
			if path.Check(s) != wantCheck(s) {
				t.Errorf("P3: Check of %q", s)
			}
			if !slices.Equal(path.Parts(s), path.Parts(s)) || path.Parent(s) != path.Parent(s) || path.Last(s) != path.Last(s) || path.In(s, "/a") != path.In(s, "/a") {
				t.Errorf("P3: the pieces of %q", s)
			}
		}
	}
}

func TestWhatMayNotBe(t *testing.T) { // P1, P8: no panic, and an end
	all := append(noPaths(), allowed()[:9]...)
	all = append(all, texts([]string{"/", "a", "\xff"}, 4)...)
	all = append(all, strings.Repeat("/", 1000), strings.Repeat("/a", 100000), strings.Repeat("a", 1<<20), strings.Repeat("\xff/", 1<<16))
	for _, s := range all {
		path.Name(s)
		path.Check(s)
		path.Parts(s)
		path.Parent(s)
		path.Last(s)
	}
	for _, s := range all[:len(all)-4] {
		for _, x := range all {
			path.Join(s, x)
			path.Join(x, s)
			path.In(s, x)
			path.In(x, s)
		}
	}
}
