package user_test

import (
	"fmt"
	"hash/fnv"
	"math"
	"math/rand/v2"
	"slices"
	"strings"
	"testing"

	"donjon/api"
	"donjon/user"
)

func lab(sec, secCats, integ, intCats int) api.Label {
	return api.Label{Sec: sec, SecCats: secCats, Int: integ, IntCats: intCats}
}

// top is over all labels.
func top() api.Label { return lab(3, 255, 0, 0) }

// comesTo tells P801 by the library's chain, which is the same one.
func comesTo(salt int, word string) uint64 {
	h := fnv.New64a()
	for i := range 8 {
		h.Write([]byte{byte(uint64(salt) >> (8 * (7 - i)))})
	}
	h.Write([]byte(word))
	return h.Sum64()
}

// who is a user with that word.
func who(name string, salt int, word string, clear api.Label) api.User {
	return api.User{Name: name, Salt: salt, Hash: comesTo(salt, word), Clear: clear}
}

// crowd are so many users, u00, u01, .., whose words are w0, w1, ..
func crowd(n int) []api.User {
	var out []api.User
	for i := range n {
		out = append(out, who(fmt.Sprintf("u%02d", i), i-3, fmt.Sprint("w", i), lab(i%4, i*17%256, 3-i%4, i*29%256)))
	}
	return out
}

// called are users of those names, who may be but for them.
func called(names ...string) []api.User {
	var out []api.User
	for i, s := range names {
		out = append(out, api.User{Name: s, Salt: i})
	}
	return out
}

// names are names that may be, from the first to the last, byte by byte.
func names() []string {
	return []string{"0", "00", "0a", "1", "10", "2", "9", "9z", "a", "a0", "a9", "aa", "aaaaaaaaaaa", "aaaaaaaaaaaa", "aaaaaaaaaaab", "ab", "abcdefghij01", "b", "ba", "z", "z9", "zz", "zzzzzzzzzzzz"}
}

// noNames are none: none and too many bytes, and bytes beside the ends, at each end of the text and within it.
func noNames() []string {
	out := []string{"", "*", " ", "/", "/a", "a/b", "Ann", "ANN", "annA", strings.Repeat("a", 13), strings.Repeat("0", 13), strings.Repeat("z", 24), strings.Repeat("a", 256), strings.Repeat("a", 268), "é", "aé", "ａ", "１", "a\u0301", "\U0001f600"}
	for _, c := range []byte{'a' - 1, 'z' + 1, '0' - 1, '9' + 1, 'A', 'Z', 0, ' ', '.', '-', '_', '\n', 127, 128, 'a' + 128, 255} {
		x := string([]byte{c})
		out = append(out, x, "a"+x, x+"a", "a"+x+"9", strings.Repeat("z", 11)+x, x+strings.Repeat("0", 11))
	}
	return out
}

// labels are those at the bounds, and within them.
func labels() []api.Label {
	return []api.Label{{}, lab(0, 0, 3, 255), top(), lab(3, 255, 3, 255), lab(1, 2, 2, 4), lab(2, 128, 1, 127)}
}

// noLabels are beyond the bounds in one number, or in all.
func noLabels() []api.Label {
	out := []api.Label{lab(4, 256, 4, 256), lab(-1, -1, -1, -1)}
	for _, n := range []int{-1, 256, -256, 1 << 32, math.MaxInt, math.MinInt} {
		out = append(out, lab(n, 0, 0, 0), lab(0, n, 0, 0), lab(0, 0, n, 0), lab(0, 0, 0, n))
	}
	for _, n := range []int{4, 5, 128, 255} { // what categories may be, a level may not
		out = append(out, lab(n, 1, 1, 1), lab(1, 1, n, 1))
	}
	return out
}

// fine is a config that may be.
func fine() api.Config {
	return api.Config{
		Terms: []api.Label{lab(0, 0, 3, 255), lab(2, 5, 1, 3), lab(2, 5, 1, 3)},
		Users: crowd(3),
		Rules: []api.Rule{{From: top(), To: lab(0, 0, 3, 255), Word: "secret"}, {From: lab(1, 1, 1, 1), To: lab(1, 1, 1, 1), Word: "0"}},
	}
}

func TestCheckCounts(t *testing.T) { // P901, P2
	for n := range 40 {
		want := api.OK
		if n > 16 {
			want = api.ErrMany
		}
		if e := user.Check(crowd(n)); e != want {
			t.Errorf("P901: Check of %d users: %v", n, e)
		}
	}
	if user.Check(nil) != api.OK || user.Check([]api.User{}) != api.OK {
		t.Error("P2: Check of no users, and of an empty list")
	}
	for _, n := range []int{17, 18, 256, 100000} { // whatever else is wrong with them
		if e := user.Check(make([]api.User, n)); e != api.ErrMany {
			t.Errorf("P6: Check of %d that are none: %v", n, e)
		}
	}
	if e := user.Check(make([]api.User, 16)); e != api.ErrArg {
		t.Errorf("P901: Check of 16 that are none: %v", e)
	}
	for i := range 17 {
		for _, bad := range []api.User{{}, {Name: "A"}, {Name: "u00"}, {Name: "zz", Clear: lab(4, 0, 0, 0)}} {
			l := crowd(17)
			l[i] = bad
			if e := user.Check(l); e != api.ErrMany {
				t.Errorf("P6: Check of 17, %v at %d: %v", bad, i, e)
			}
		}
	}
}

func TestCheckNames(t *testing.T) { // P901
	for _, s := range names() {
		if e := user.Check(called(s)); e != api.OK {
			t.Errorf("P901: Check of %q: %v", s, e)
		}
	}
	for _, s := range noNames() {
		if e := user.Check(called(s)); e != api.ErrArg {
			t.Errorf("P901: Check of %q: %v", s, e)
		}
		if e := user.Check(called("0", "z", s)); e != api.ErrArg {
			t.Errorf("P901: Check of %q behind two: %v", s, e)
		}
	}
	for c := range 256 {
		want := api.ErrArg
		if c >= 'a' && c <= 'z' || c >= '0' && c <= '9' {
			want = api.OK
		}
		for _, s := range []string{string([]byte{byte(c)}), string([]byte{'k', byte(c)}), string([]byte{byte(c), 'k'})} {
			if e := user.Check(called(s)); e != want {
				t.Errorf("P901: Check of %q: %v", s, e)
			}
		}
	}
	for n := range 40 {
		want := api.ErrArg
		if n >= 1 && n <= 12 {
			want = api.OK
		}
		if e := user.Check(called(strings.Repeat("k", n))); e != want {
			t.Errorf("P901: Check of a name of %d bytes: %v", n, e)
		}
	}
}

func TestCheckOrder(t *testing.T) { // P901, P9
	all := names()
	for i, a := range all {
		for j, b := range all {
			want := api.ErrArg
			if i < j {
				want = api.OK
			}
			if e := user.Check(called(a, b)); e != want {
				t.Errorf("P901: Check of %s, %s: %v", a, b, e)
			}
		}
	}
	for n := range 256 { // of four, in every order, and with every one twice: only the order that rises may be
		var l []string
		rises := true
		for k := range 4 {
			at := n >> (2 * k) % 4
			rises = rises && at == k
			l = append(l, []string{"7", "a", "ab", "b"}[at])
		}
		if e := user.Check(called(l...)); (e == api.OK) != rises || e != api.OK && e != api.ErrArg {
			t.Errorf("P901: Check of %v: %v", l, e)
		}
	}
	for i := 1; i < 16; i++ { // two that stand side by side, at each place
		l := crowd(16)
		l[i-1], l[i] = l[i], l[i-1]
		if e := user.Check(l); e != api.ErrArg {
			t.Errorf("P901: Check of 16, those at %d and %d the other way about: %v", i-1, i, e)
		}
		l = crowd(16)
		l[i].Name = l[i-1].Name
		if e := user.Check(l); e != api.ErrArg {
			t.Errorf("P901: Check of 16, those at %d and %d of one name: %v", i-1, i, e)
		}
	}
	l := crowd(16)
	slices.Reverse(l)
	if e := user.Check(l); e != api.ErrArg {
		t.Errorf("P901: Check of 16 the other way about: %v", e)
	}
}

func TestCheckLabels(t *testing.T) { // P901
	for i := range 16 {
		for _, c := range labels() {
			l := crowd(16)
			l[i].Clear = c
			if e := user.Check(l); e != api.OK {
				t.Errorf("P901: Check of Clear %v at %d: %v", c, i, e)
			}
		}
		for _, c := range noLabels() {
			l := crowd(16)
			l[i].Clear = c
			if e := user.Check(l); e != api.ErrArg {
				t.Errorf("P901: Check of Clear %v at %d: %v", c, i, e)
			}
			l[i].Name = ""
			if e := user.Check(l); e != api.ErrArg {
				t.Errorf("P6: Check of Clear %v and no name at %d: %v", c, i, e)
			}
		}
	}
}

func TestCheckAsksNothingElse(t *testing.T) { // P901
	for _, salt := range []int{0, -1, math.MaxInt, math.MinInt} {
		for _, h := range []uint64{0, 1, math.MaxUint64} {
			for _, officer := range []bool{false, true} {
				if e := user.Check([]api.User{{Name: "a", Salt: salt, Hash: h, Officer: officer}, {Name: "b", Salt: salt, Hash: h, Officer: officer}}); e != api.OK {
					t.Errorf("P901: Check of Salt %d, Hash %d, Officer %v: %v", salt, h, officer, e)
				}
			}
		}
	}
}

func TestFind(t *testing.T) { // P901, P4
	for n := range 17 {
		l := crowd(n)
		for i, want := range l {
			want.Officer = i%3 == 0
			l[i] = want
			if u, is := user.Find(l, want.Name); !is || u != want {
				t.Errorf("P901: of %d Find of %s: %v, %v", n, want.Name, u, is)
			}
		}
		nobody := []string{"", "t99", "u", "u0", "u000", "u001", "u02a", "u15a", "u16", "u99", "v", "U00", "u00 ", " u00", "u00\x00", "0", "zzzzzzzzzzzz", "*", strings.Repeat("u", 13), "u0\xff", fmt.Sprintf("u%02d", n)}
		for _, s := range append(nobody, noNames()...) {
			if u, is := user.Find(l, s); is || u != (api.User{}) {
				t.Errorf("P4: of %d Find of %q: %v, %v", n, s, u, is)
			}
		}
	}
	if u, is := user.Find(nil, "a"); is || u != (api.User{}) {
		t.Errorf("P4: of none Find: %v, %v", u, is)
	}
}

func TestFindOfNearNames(t *testing.T) { // P901: names that differ in their last sign, or in their length, alone
	all := names()
	for front := range all { // 16 at most, from each place on
		l := called(all[front:min(front+16, len(all))]...)
		if e := user.Check(l); e != api.OK {
			t.Fatalf("P901: Check: %v", e)
		}
		for _, s := range all {
			u, is := user.Find(l, s)
			i := slices.IndexFunc(l, func(u api.User) bool { return u.Name == s })
			if is != (i >= 0) || is && u != l[i] || !is && u != (api.User{}) {
				t.Errorf("P901: Find of %q, users from %q on: %v, %v", s, all[front], u, is)
			}
		}
	}
}

func TestEnterExample(t *testing.T) { // the chapter's example 1
	for _, l := range [][]api.User{nil, {}} {
		for _, name := range []string{"", "a", "ann", "*"} {
			for _, at := range labels() {
				if e := user.Enter(l, name, "", at); e != api.ErrName {
					t.Errorf("P902: no users, Enter of %q: %v", name, e)
				}
			}
		}
	}
}

func TestEnterOfNobody(t *testing.T) { // P902: who is not there is not one whose Salt, Hash and Clear are zero
	word := "\xdf\xac\x4b\xb0\x27\x0d\x06\xbc\x79\x96"
	if h := comesTo(0, word); h != 0 {
		t.Fatalf("the test's word comes to %x, not to 0", h)
	}
	for _, l := range [][]api.User{nil, crowd(3), crowd(16)} {
		for _, name := range []string{"", "a", "u", "u99", "zed"} {
			if e := user.Enter(l, name, word, api.Label{}); e != api.ErrName {
				t.Errorf("P902: of %d users Enter of %q: %v", len(l), name, e)
			}
		}
	}
	if e := user.Enter([]api.User{{Name: "zed"}}, "zed", word, api.Label{}); e != api.OK {
		t.Errorf("P902: Enter of one whose Salt, Hash and Clear are zero: %v", e)
	}
}

func TestEnterLabels(t *testing.T) { // P902
	clear := lab(2, 5, 1, 6)
	l := []api.User{who("ann", 7, "aa", clear), who("bob", 7, "aa", lab(0, 0, 3, 255)), who("cid", 7, "aa", top())}
	for _, x := range []struct {
		at   api.Label
		want api.Errno
	}{
		{clear, api.OK},
		{lab(1, 5, 1, 6), api.OK}, {lab(0, 5, 1, 6), api.OK}, {lab(3, 5, 1, 6), api.ErrName},
		{lab(2, 4, 1, 6), api.OK}, {lab(2, 0, 1, 6), api.OK}, {lab(2, 2, 1, 6), api.ErrName}, {lab(2, 7, 1, 6), api.ErrName}, {lab(2, 133, 1, 6), api.ErrName},
		{lab(2, 5, 2, 6), api.OK}, {lab(2, 5, 3, 6), api.OK}, {lab(2, 5, 0, 6), api.ErrName},
		{lab(2, 5, 1, 7), api.OK}, {lab(2, 5, 1, 255), api.OK}, {lab(2, 5, 1, 4), api.ErrName}, {lab(2, 5, 1, 0), api.ErrName}, {lab(2, 5, 1, 9), api.ErrName},
		{lab(0, 0, 3, 255), api.OK}, {top(), api.ErrName}, {api.Label{}, api.ErrName}, {lab(3, 255, 3, 255), api.ErrName},
		{lab(1, 7, 2, 7), api.ErrName}, {lab(3, 1, 2, 7), api.ErrName}, {lab(1, 1, 0, 7), api.ErrName}, {lab(1, 1, 2, 5), api.ErrName}, // in one number alone it is not over
	} {
		if e := user.Enter(l, "ann", "aa", x.at); e != x.want {
			t.Errorf("P902: Clear %v, Enter at %v: %v", clear, x.at, e)
		}
		if e := user.Enter(l, "cid", "aa", x.at); e != api.OK {
			t.Errorf("P902: Clear over all, Enter at %v: %v", x.at, e)
		}
		want := api.ErrName
		if x.at == lab(0, 0, 3, 255) {
			want = api.OK
		}
		if e := user.Enter(l, "bob", "aa", x.at); e != want {
			t.Errorf("P902: Clear the bottom, Enter at %v: %v", x.at, e)
		}
		// A word that is wrong is refused wherever it is said.
		if e := user.Enter(l, "ann", "ab", x.at); e != api.ErrName {
			t.Errorf("P902: another word, Enter at %v: %v", x.at, e)
		}
	}
}

func TestEnterWords(t *testing.T) { // P902
	low := lab(0, 0, 3, 255)
	words := []string{"", "a", "b", "aa", "ab", "ba", "A", " a", "a ", "a\x00", "\x00", "\x00a", "\xff", "é", "e\u0301", "open sesame", strings.Repeat("x", 200), strings.Repeat("x", 201), strings.Repeat("y", 1<<16)}
	salts := []int{0, 1, -1, 255, 256, 1 << 32, -1 << 32, math.MaxInt, math.MinInt, 0x0102030405060708}
	for _, salt := range salts {
		for i, word := range words {
			l := []api.User{who("a", salt+1, word, low), who("ann", salt, word, low), who("z", salt, "another one's", low)}
			for j, said := range words {
				want := api.ErrName
				if i == j {
					want = api.OK
				}
				if e := user.Enter(l, "ann", said, low); e != want {
					t.Fatalf("P902: Salt %d, word %.20q, Enter with %.20q: %v", salt, word, said, e)
				}
			}
		}
	}
	for _, word := range []string{"open sesame", "x", "\x00\xff", strings.Repeat("7", 40)} { // each byte turned
		l := []api.User{who("ann", -9, word, top())}
		for i := range len(word) {
			for by := 1; by < 256; by++ {
				b := []byte(word)
				b[i] ^= byte(by)
				if e := user.Enter(l, "ann", string(b), low); e != api.ErrName {
					t.Fatalf("P902: word %q, Enter with %q: %v", word, b, e)
				}
			}
			if e := user.Enter(l, "ann", word[:i], low); e != api.ErrName {
				t.Errorf("P902: word %q, Enter with its first %d bytes: %v", word, i, e)
			}
		}
	}
}

func TestEnterBySaltAndHash(t *testing.T) { // P902: both are the user's own
	u := who("ann", 5, "aa", top())
	for _, x := range []struct {
		salt int
		hash uint64
		want api.Errno
	}{{u.Salt, u.Hash, api.OK}, {u.Salt + 1, u.Hash, api.ErrName}, {-u.Salt, u.Hash, api.ErrName}, {0, u.Hash, api.ErrName}, {u.Salt + 1<<32, u.Hash, api.ErrName}, {u.Salt + math.MinInt, u.Hash, api.ErrName}, {u.Salt, u.Hash + 1, api.ErrName}, {u.Salt, ^u.Hash, api.ErrName}, {u.Salt, 0, api.ErrName}, {u.Salt, u.Hash & (1<<32 - 1), api.ErrName}, {u.Salt, u.Hash &^ (1<<32 - 1), api.ErrName}} {
		u.Salt, u.Hash = x.salt, x.hash
		for _, officer := range []bool{false, true} {
			u.Officer = officer
			if e := user.Enter([]api.User{u}, "ann", "aa", lab(1, 1, 1, 1)); e != x.want {
				t.Errorf("P902: Salt %d, Hash %x, Enter: %v", x.salt, x.hash, e)
			}
		}
	}
	for bit := range 64 {
		u := who("ann", 5, "aa", top())
		u.Hash ^= 1 << bit
		if e := user.Enter([]api.User{u}, "ann", "aa", lab(1, 1, 1, 1)); e != api.ErrName {
			t.Errorf("P902: Hash with its bit %d turned, Enter: %v", bit, e)
		}
	}
}

func TestEnterAmongMany(t *testing.T) { // P902: everybody with their own word, at their own labels, and nobody else's
	l := crowd(16)
	for i, u := range l {
		for j, other := range l {
			want := api.ErrName
			if i == j {
				want = api.OK
			}
			if e := user.Enter(l, u.Name, fmt.Sprint("w", j), u.Clear); e != want {
				t.Errorf("P902: Enter of %s with the word of %s: %v", u.Name, other.Name, e)
			}
			if e, want := user.Enter(l, u.Name, fmt.Sprint("w", i), other.Clear), wantAt(u.Clear, other.Clear); e != want {
				t.Errorf("P902: Enter of %s at the label of %s: %v", u.Name, other.Name, e)
			}
		}
		for _, s := range append(noNames(), "u16", "u", "u0", "u000", "v", "t", "zzzzzzzzzzzz") {
			if e := user.Enter(l, s, fmt.Sprint("w", i), lab(0, 0, 3, 255)); e != api.ErrName {
				t.Errorf("P902: Enter of %q with the word of %s: %v", s, u.Name, e)
			}
		}
	}
}

// isOver says the same as chapter 4, category by category.
func isOver(a, b api.Label) bool {
	for k := range 8 {
		if b.SecCats>>k%2 > a.SecCats>>k%2 || a.IntCats>>k%2 > b.IntCats>>k%2 {
			return false
		}
	}
	return a.Sec >= b.Sec && a.Int <= b.Int
}

func wantAt(clear, at api.Label) api.Errno {
	if isOver(clear, at) {
		return api.OK
	}
	return api.ErrName
}

// near are labels many of which are over one another, and many are not.
func near() []api.Label {
	var out []api.Label
	for sec := range 3 {
		for secCats := range 4 {
			for integ := range 3 {
				for intCats := range 4 {
					out = append(out, lab(sec+1, secCats<<6, integ+1, intCats<<3))
				}
			}
		}
	}
	return append(out, lab(0, 0, 3, 255), top())
}

func TestEnterAtAllBelow(t *testing.T) { // P904, P902
	all := near()
	for _, clear := range all {
		l := []api.User{who("ann", 1, "aa", clear), who("bob", 2, "bb", top())}
		may := make([]bool, len(all))
		for i, at := range all {
			e := user.Enter(l, "ann", "aa", at)
			if e != wantAt(clear, at) {
				t.Fatalf("P902: Clear %v, Enter at %v: %v", clear, at, e)
			}
			may[i] = e == api.OK
		}
		for i, at := range all {
			for j, below := range all {
				if may[i] && isOver(at, below) && !may[j] {
					t.Fatalf("P904: Clear %v: in at %v, not at %v", clear, at, below)
				}
			}
		}
	}
}

func TestConfigTerms(t *testing.T) { // P903, P2
	for n := range 30 {
		want := api.OK
		if n < 1 || n > 8 {
			want = api.ErrMany
		}
		c := fine()
		c.Terms = make([]api.Label, n)
		if e := user.Config(c); e != want {
			t.Errorf("P903: Config of %d terminals: %v", n, e)
		}
	}
	c := fine()
	c.Terms = nil
	if e := user.Config(c); e != api.ErrMany {
		t.Errorf("P2: Config of no terminals: %v", e)
	}
	if e := user.Config(api.Config{}); e != api.ErrMany {
		t.Errorf("P903: Config of nothing: %v", e)
	}
	if e := user.Config(api.Config{Terms: []api.Label{top()}}); e != api.OK {
		t.Errorf("P903: Config of a terminal alone: %v", e)
	}
	for i := range 8 {
		for _, at := range labels() {
			c := api.Config{Terms: slices.Repeat([]api.Label{top()}, 8)}
			c.Terms[i] = at
			if e := user.Config(c); e != api.OK {
				t.Errorf("P903: Config of %v at terminal %d: %v", at, i, e)
			}
		}
		for _, at := range noLabels() {
			c := api.Config{Terms: slices.Repeat([]api.Label{top()}, 8)}
			c.Terms[i] = at
			if e := user.Config(c); e != api.ErrArg {
				t.Errorf("P903: Config of %v at terminal %d: %v", at, i, e)
			}
		}
	}
}

func TestConfigUsers(t *testing.T) { // P903
	lists := [][]api.User{nil, {}, make([]api.User, 1), make([]api.User, 16), make([]api.User, 17), called("b", "a"), called("a", "a"), called("a", "B"), called("a", "b", "c"), called("aaaaaaaaaaaaa")}
	for n := range 20 {
		lists = append(lists, crowd(n))
	}
	for _, clear := range append(labels(), noLabels()...) {
		lists = append(lists, []api.User{who("ann", 1, "aa", top()), who("bob", 1, "bb", clear)})
	}
	for _, l := range lists {
		c := fine()
		c.Users = l
		if e, want := user.Config(c), wantCheck(l); e != want {
			t.Errorf("P903: Config of the users %v: %v, not %v", l, e, want)
		}
	}
}

func TestConfigRules(t *testing.T) { // P903, P2
	for n := range 30 {
		want := api.OK
		if n > 8 {
			want = api.ErrMany
		}
		c := fine()
		c.Rules = slices.Repeat(c.Rules[:1], n) // the same one as often as one likes
		if e := user.Config(c); e != want {
			t.Errorf("P903: Config of %d rules: %v", n, e)
		}
	}
	for _, l := range [][]api.Rule{nil, {}} {
		c := fine()
		c.Rules = l
		if e := user.Config(c); e != api.OK {
			t.Errorf("P2: Config of no rules: %v", e)
		}
	}
	for i := range 8 {
		hold := func(r api.Rule, want api.Errno) {
			t.Helper()
			c := fine()
			c.Rules = slices.Repeat(c.Rules[:1], 8)
			c.Rules[i] = r
			if e := user.Config(c); e != want {
				t.Errorf("P903: Config of the rule %v at %d: %v", r, i, e)
			}
		}
		for _, x := range labels() { // up, down, to its own label, and to one beside it: all may be
			for _, y := range labels() {
				hold(api.Rule{From: x, To: y, Word: "w"}, api.OK)
			}
			for _, y := range noLabels() {
				hold(api.Rule{From: x, To: y, Word: "w"}, api.ErrArg)
				hold(api.Rule{From: y, To: x, Word: "w"}, api.ErrArg)
				hold(api.Rule{From: y, To: y, Word: ""}, api.ErrArg)
			}
		}
		for _, s := range names() {
			hold(api.Rule{From: top(), Word: s}, api.OK)
		}
		for _, s := range noNames() {
			hold(api.Rule{From: top(), Word: s}, api.ErrArg)
		}
	}
}

func TestConfigOrder(t *testing.T) { // P6: each kind of wrong thing, and all that are named behind it wrong too
	many, none := make([]api.Rule, 9), []api.Rule{{Word: "X"}}
	for i, x := range []struct {
		terms []api.Label
		users []api.User
		rules []api.Rule
		want  api.Errno
	}{
		{nil, called(""), none, api.ErrMany},
		{nil, called("a"), nil, api.ErrMany},
		{make([]api.Label, 9), called(""), none, api.ErrMany},
		{slices.Repeat([]api.Label{lab(4, 0, 0, 0)}, 9), nil, nil, api.ErrMany},
		{[]api.Label{lab(4, 0, 0, 0)}, make([]api.User, 17), many, api.ErrArg},
		{[]api.Label{{}, lab(0, 0, 0, -1)}, make([]api.User, 17), nil, api.ErrArg},
		{[]api.Label{{}, lab(0, 256, 0, 0)}, nil, many, api.ErrArg},
		{[]api.Label{{}}, make([]api.User, 17), none, api.ErrMany},
		{[]api.Label{{}}, crowd(17), none, api.ErrMany},
		{[]api.Label{{}}, called("A"), many, api.ErrArg},
		{[]api.Label{{}}, called("b", "a"), many, api.ErrArg},
		{[]api.Label{{}}, []api.User{{Name: "a", Clear: lab(0, 0, 4, 0)}}, many, api.ErrArg},
		{[]api.Label{{}}, crowd(16), many, api.ErrMany},
		{[]api.Label{{}}, crowd(16), append(many, api.Rule{Word: "ok"}), api.ErrMany},
		{[]api.Label{{}}, crowd(16), none, api.ErrArg},
		{[]api.Label{{}}, crowd(16), make([]api.Rule, 8), api.ErrArg},
	} {
		if e := user.Config(api.Config{Terms: x.terms, Users: x.users, Rules: x.rules}); e != x.want {
			t.Errorf("P6: %d: %v, not %v", i, e, x.want)
		}
	}
}

// isName, isLabel, wantCheck and wantConfig say the same as the document, one by one.
func isName(s string) bool {
	return len(s) >= 1 && len(s) <= 12 && strings.Trim(s, "abcdefghijklmnopqrstuvwxyz0123456789") == ""
}

func isLabel(l api.Label) bool {
	return slices.Contains([]int{0, 1, 2, 3}, l.Sec) && slices.Contains([]int{0, 1, 2, 3}, l.Int) && uint(l.SecCats) <= 255 && uint(l.IntCats) <= 255
}

func wantCheck(l []api.User) api.Errno {
	if len(l) > 16 {
		return api.ErrMany
	}
	for i, u := range l {
		if !isName(u.Name) || i > 0 && strings.Compare(u.Name, l[i-1].Name) <= 0 || !isLabel(u.Clear) {
			return api.ErrArg
		}
	}
	return api.OK
}

func wantConfig(c api.Config) api.Errno {
	if len(c.Terms) == 0 || len(c.Terms) > 8 {
		return api.ErrMany
	}
	if slices.ContainsFunc(c.Terms, func(l api.Label) bool { return !isLabel(l) }) {
		return api.ErrArg
	}
	if e := wantCheck(c.Users); e != api.OK {
		return e
	}
	if len(c.Rules) > 8 {
		return api.ErrMany
	}
	if slices.ContainsFunc(c.Rules, func(r api.Rule) bool { return !isLabel(r.From) || !isLabel(r.To) || !isName(r.Word) }) {
		return api.ErrArg
	}
	return api.OK
}

// dice makes data that mostly may be, and now and then may not; the same in each run.
type dice struct{ *rand.Rand }

func (d dice) label() api.Label {
	if d.IntN(200) == 0 {
		bad := noLabels()
		return bad[d.IntN(len(bad))]
	}
	return lab(d.IntN(4), d.IntN(256), d.IntN(4), d.IntN(256))
}

func (d dice) name() string {
	all := names()
	if d.IntN(200) == 0 {
		all = noNames()
	}
	return all[d.IntN(len(all))]
}

func (d dice) users() []api.User {
	var out []api.User
	for range d.IntN(18) {
		out = append(out, api.User{Name: d.name(), Salt: int(d.Uint64()), Hash: d.Uint64(), Clear: d.label(), Officer: d.IntN(2) == 0})
	}
	if d.IntN(20) > 0 {
		slices.SortFunc(out, func(a, b api.User) int { return strings.Compare(a.Name, b.Name) })
	}
	if d.IntN(10) > 0 {
		out = slices.CompactFunc(out, func(a, b api.User) bool { return a.Name == b.Name })
	}
	return out
}

func (d dice) config() api.Config {
	c := api.Config{Users: d.users()}
	for range d.IntN(10) {
		c.Terms = append(c.Terms, d.label())
	}
	for range d.IntN(10) {
		c.Rules = append(c.Rules, api.Rule{From: d.label(), To: d.label(), Word: d.name()})
	}
	return c
}

func TestMany(t *testing.T) { // P901, P903, P6
	d := dice{rand.New(rand.NewPCG(9, 901))}
	seen, told := map[api.Errno]int{}, map[api.Errno]int{}
	for range 30000 {
		l, c := d.users(), d.config()
		want := wantCheck(l)
		if seen[want]++; user.Check(l) != want {
			t.Fatalf("P901: Check(%v): %v, not %v", l, user.Check(l), want)
		}
		want = wantConfig(c)
		if told[want]++; user.Config(c) != want {
			t.Fatalf("P903: Config(%v): %v, not %v", c, user.Config(c), want)
		}
	}
	for _, e := range []api.Errno{api.OK, api.ErrArg, api.ErrMany} {
		if seen[e] < 100 || told[e] < 100 {
			t.Errorf("the test's data are lopsided: %v, %v", seen, told)
		}
	}
}

// roomy is a list with spare room behind it, and all of its room.
func roomy[T any](l []T, spare T) (in, all []T) {
	all = append(slices.Clone(l), slices.Repeat([]T{spare}, 20)...)
	return all[:len(l)], all
}

func TestMemory(t *testing.T) { // P2, P3
	d := dice{rand.New(rand.NewPCG(9, 2))}
	for range 3000 {
		c := d.config()
		users, allUsers := roomy(c.Users, api.User{Name: "spare", Salt: 9})
		terms, allTerms := roomy(c.Terms, lab(9, 9, 9, 9))
		rules, allRules := roomy(c.Rules, api.Rule{Word: "spare"})
		in := api.Config{Terms: terms, Users: users, Rules: rules}
		wasUsers, wasTerms, wasRules := slices.Clone(allUsers), slices.Clone(allTerms), slices.Clone(allRules)
		name, at := d.name(), d.label()
		for range 2 {
			u, is := user.Find(users, name)
			again, is2 := user.Find(users, name)
			if user.Check(users) != wantCheck(c.Users) || user.Config(in) != wantConfig(c) || user.Enter(users, name, "w", at) != user.Enter(users, name, "w", at) || u != again || is != is2 {
				t.Fatalf("P3: of %v, %q the second answer is another one", c, name)
			}
			u.Name, u.Salt, u.Clear.Sec = "scrawl", -9, -9
			if after, _ := user.Find(users, name); after != again {
				t.Fatalf("P2: who was found is changed by a change of what was told: %v", after)
			}
		}
		if !slices.Equal(allUsers, wasUsers) || !slices.Equal(allTerms, wasTerms) || !slices.Equal(allRules, wasRules) {
			t.Fatalf("P2: what was handed in is changed: %v", in)
		}
		u, is := user.Find(users, name)
		was := u
		for i := range allUsers {
			allUsers[i] = api.User{Name: "scrawl"}
		}
		if u != was {
			t.Fatalf("P2: who was told is changed by a change of the list: %v, %v", u, is)
		}
		if u, is := user.Find(users, name); is || u != (api.User{}) {
			t.Fatalf("P2: %q is still known, from a list of an earlier call: %v", name, u)
		}
	}
}

func TestNoListIsAnEmptyOne(t *testing.T) { // P2
	none := api.Config{Terms: make([]api.Label, 1)}
	empty := api.Config{Terms: make([]api.Label, 1), Users: []api.User{}, Rules: []api.Rule{}}
	if user.Config(none) != user.Config(empty) || user.Config(api.Config{}) != user.Config(api.Config{Terms: []api.Label{}}) {
		t.Error("P2: Config")
	}
	for _, s := range []string{"", "a"} {
		a, is := user.Find(nil, s)
		b, is2 := user.Find([]api.User{}, s)
		if a != b || is != is2 || user.Enter(nil, s, s, top()) != user.Enter([]api.User{}, s, s, top()) {
			t.Errorf("P2: Find, Enter of %q", s)
		}
	}
}

func TestWhatMayNotBe(t *testing.T) { // P1, P2, P8: no panic, an end, and nothing changed
	d := dice{rand.New(rand.NewPCG(9, 8))}
	odd := append(noLabels(), labels()...)
	for range 5000 {
		var l []api.User
		for range d.IntN(40) {
			s := append(noNames(), names()...)
			l = append(l, api.User{Name: s[d.IntN(len(s))], Salt: int(d.Uint64()), Hash: d.Uint64(), Clear: odd[d.IntN(len(odd))]})
		}
		was := slices.Clone(l)
		s := append(noNames(), names()...)
		name := s[d.IntN(len(s))]
		if u, is := user.Find(l, name); !is && u != (api.User{}) || is && u.Name != name {
			t.Fatalf("P4: Find of %q: %v, %v", name, u, is)
		}
		if e := user.Enter(l, name, "w", odd[d.IntN(len(odd))]); e != api.OK && e != api.ErrName {
			t.Fatalf("P902: Enter of %q: %v", name, e)
		}
		if !slices.Equal(l, was) {
			t.Fatalf("P2: what was handed in is changed: %v", l)
		}
	}
	long := make([]api.User, 1<<18)
	user.Find(long, "a")
	user.Enter(long, "a", strings.Repeat("w", 1<<20), top())
	user.Enter(crowd(16), strings.Repeat("u", 1<<20), strings.Repeat("w", 1<<20), top())
	if e := user.Config(api.Config{Terms: make([]api.Label, 1<<18), Users: long}); e != api.ErrMany {
		t.Errorf("P903: Config of too many: %v", e)
	}
}
