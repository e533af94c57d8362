package acl_test

import (
	"fmt"
	"math"
	"math/rand/v2"
	"slices"
	"sort"
	"strings"
	"testing"

	"donjon/acl"
	"donjon/api"
)

func g(user string, modes int) api.Grant { return api.Grant{User: user, Modes: modes} }

func list(gs ...api.Grant) []api.Grant { return gs }

// far are numbers that no grant's modes may be, and Set takes none of them.
func far() []int {
	return []int{-1, 8, -2, -7, -8, 9, 15, 16, 255, 256, 257, math.MaxInt32, math.MinInt32, 1 << 32, 1<<32 + 1, 1 << 40, math.MaxInt64 - 1, math.MaxInt64, math.MinInt64, math.MinInt64 + 1}
}

// names are names that may be: of the least and the most bytes, and of the bytes at the ends.
func names() []string {
	return []string{"a", "z", "0", "9", "m", "5", "az", "09", "a0", "0a", "z9", "9z", strings.Repeat("a", 12), strings.Repeat("z", 12), strings.Repeat("0", 12), strings.Repeat("9", 12), "abcdefghij01", "klmnopqrstuv", "wxyz23456789", strings.Repeat("q", 11)}
}

// noNames are neither names nor `*`: none and too many bytes, and bytes beside the ends, at each end of the text and within it.
func noNames() []string {
	out := []string{"", "**", "*a", "a*", "* ", " *", strings.Repeat("a", 13), strings.Repeat("0", 13), strings.Repeat("*", 12), strings.Repeat("z", 24), strings.Repeat("a", 256), strings.Repeat("a", 268), "é", "aé", "ａ", "١", "a\xff", "\xc3a"}
	for _, c := range []byte{'a' - 1, 'z' + 1, '0' - 1, '9' + 1, 'A', 'Z', 'M', 0, ' ', '.', '-', '_', '>', 127, 128, 'a' + 128, '0' + 128, 255} {
		x := string([]byte{c})
		out = append(out, x, "a"+x, x+"a", "a"+x+"9", strings.Repeat("z", 11)+x, x+strings.Repeat("0", 11))
	}
	return out
}

func TestCheckNames(t *testing.T) { // P501
	for _, s := range append(names(), "*") {
		if e := acl.Check(list(g(s, 1))); e != api.OK {
			t.Errorf("P501: Check of %q: %v", s, e)
		}
	}
	for _, s := range noNames() {
		if e := acl.Check(list(g(s, 1))); e != api.ErrArg {
			t.Errorf("P501: Check of %q: %v", s, e)
		}
	}
	for c := range 256 { // every byte, alone and behind others
		want := api.ErrArg
		if strings.Contains("abcdefghijklmnopqrstuvwxyz0123456789", string(rune(c))) {
			want = api.OK
		}
		x := string([]byte{byte(c)})
		if e := acl.Check(list(g(x, 1))); e != want && c != '*' {
			t.Errorf("P501: Check of the byte %d: %v", c, e)
		}
		if e := acl.Check(list(g("user"+x, 1))); e != want {
			t.Errorf("P501: Check of the byte %d at the end: %v", c, e)
		}
	}
	for n := range 40 {
		want := api.ErrArg
		if n >= 1 && n <= 12 {
			want = api.OK
		}
		if e := acl.Check(list(g(strings.Repeat("k", n), 1))); e != want {
			t.Errorf("P501: Check of a name of %d bytes: %v", n, e)
		}
	}
}

func TestCheckModes(t *testing.T) { // P501
	for _, user := range []string{"*", "a", "zz9"} {
		for m := 1; m <= 7; m++ {
			if e := acl.Check(list(g(user, m))); e != api.OK {
				t.Errorf("P501: Check of {%s %d}: %v", user, m, e)
			}
		}
		for _, m := range append(far(), 0) {
			if e := acl.Check(list(g(user, m))); e != api.ErrArg {
				t.Errorf("P501: Check of {%s %d}: %v", user, m, e)
			}
		}
	}
}

func TestCheckCounts(t *testing.T) { // P501, P2, P6
	full := list(g("*", 1), g("0", 2), g("a", 4), g("b", 7))
	for n := range 5 {
		if e := acl.Check(full[:n]); e != api.OK {
			t.Errorf("P501: Check of %d grants: %v", n, e)
		}
	}
	if acl.Check(nil) != api.OK || acl.Check([]api.Grant{}) != api.OK {
		t.Error("P2: Check of no list, and of an empty one")
	}
	for _, more := range []api.Grant{g("c", 1), g("c", 0), g("b", 1), g("a", 1), g("*", 1), g("C", 1), g("", -1)} {
		if e := acl.Check(append(slices.Clone(full), more)); e != api.ErrMany {
			t.Errorf("P501: Check of five grants, %v the last: %v", more, e)
		}
		if e := acl.Check(append(list(more), full...)); e != api.ErrMany {
			t.Errorf("P6: Check of five grants, %v the first: %v", more, e)
		}
	}
	if e := acl.Check(make([]api.Grant, 5)); e != api.ErrMany {
		t.Errorf("P6: Check of five that are none: %v", e)
	}
	if e := acl.Check(make([]api.Grant, 4)); e != api.ErrArg {
		t.Errorf("P501: Check of four that are none: %v", e)
	}
	if e := acl.Check(make([]api.Grant, 100000)); e != api.ErrMany {
		t.Errorf("P501: Check of a hundred thousand: %v", e)
	}
}

func TestCheckEachPlace(t *testing.T) { // P501: what is wrong is wrong wherever it stands.
	ok := list(g("*", 1), g("b", 2), g("d", 4), g("f", 7))
	for i := range ok {
		for _, bad := range []api.Grant{g(ok[i].User, 0), g(ok[i].User, 8), g(ok[i].User, -1), g(ok[i].User+"A", 1), g(ok[i].User+"*", 1), g(ok[i].User+strings.Repeat("a", 12), 1), g("", 1)} {
			l := slices.Clone(ok)
			l[i] = bad
			if e := acl.Check(l); e != api.ErrArg {
				t.Errorf("P501: Check(%v): %v", l, e)
			}
		}
	}
}

// inOrder are users from the first to the last, byte by byte.
func inOrder() []string {
	return []string{"*", "0", "00", "0a", "1", "10", "2", "9", "9z", "a", "a0", "a00", "a9", "aa", "aaaaaaaaaaaa", "aaaaaaaaaaab", "ab", "b", "ba", "z", "z0", "zz", "zzzzzzzzzzzz"}
}

func TestCheckOrder(t *testing.T) { // P501, P9
	us := inOrder()
	for i, a := range us {
		for j, b := range us {
			want := api.ErrArg
			if i < j {
				want = api.OK
			}
			if e := acl.Check(list(g(a, 1), g(b, 1))); e != want {
				t.Errorf("P501: Check of %s, %s: %v", a, b, e)
			}
			// Modes do not bear on the order.
			if e := acl.Check(list(g(a, 7), g(b, 1))); e != want {
				t.Errorf("P501: Check of %s 7, %s 1: %v", a, b, e)
			}
			if e := acl.Check(list(g(a, 1), g(b, 7))); e != want {
				t.Errorf("P501: Check of %s 1, %s 7: %v", a, b, e)
			}
		}
	}
	// Of four, in every order and with every one twice: only the one order that rises may be.
	few := []string{"*", "7", "a", "ab"}
	for n := range 256 {
		var l []api.Grant
		rises := true
		for k := range 4 {
			at := n >> (2 * k) % 4
			rises = rises && at == k
			l = append(l, g(few[at], 3))
		}
		if e := acl.Check(l); (e == api.OK) != rises || e != api.OK && e != api.ErrArg {
			t.Errorf("P501: Check(%v): %v", l, e)
		}
	}
}

func TestModes(t *testing.T) { // P501
	l := list(g("*", 1), g("a", 6))
	if acl.Modes(l, "a") != 6 || acl.Modes(l, "b") != 1 {
		t.Error("P501: the chapter's example 1")
	}
	for _, x := range []struct {
		l    []api.Grant
		user string
		want int
	}{
		{nil, "a", 0}, {nil, "*", 0}, {nil, "", 0}, {list(), "a", 0},
		{list(g("*", 7)), "a", 7}, {list(g("*", 7)), "*", 7}, {list(g("*", 7)), "", 7},
		{list(g("a", 4)), "a", 4}, {list(g("a", 4)), "b", 0}, {list(g("a", 4)), "0", 0}, {list(g("a", 4)), "aa", 0}, {list(g("a", 4)), "*", 0}, {list(g("a", 4)), "", 0}, {list(g("a", 4)), "A", 0},
		// Their own, even if every one has more: neither is added to the other.
		{list(g("*", 7), g("a", 1)), "a", 1}, {list(g("*", 3), g("a", 4)), "a", 4}, {list(g("*", 6), g("a", 1)), "b", 6},
		{list(g("0", 1), g("a", 2), g("ab", 3), g("b", 4)), "0", 1}, {list(g("0", 1), g("a", 2), g("ab", 3), g("b", 4)), "a", 2}, {list(g("0", 1), g("a", 2), g("ab", 3), g("b", 4)), "ab", 3}, {list(g("0", 1), g("a", 2), g("ab", 3), g("b", 4)), "b", 4}, {list(g("0", 1), g("a", 2), g("ab", 3), g("b", 4)), "c", 0}, {list(g("0", 1), g("a", 2), g("ab", 3), g("b", 4)), "aa", 0}, {list(g("0", 1), g("a", 2), g("ab", 3), g("b", 4)), "*", 0},
		{list(g("*", 5), g("aaaaaaaaaaaa", 2)), "aaaaaaaaaaaa", 2}, {list(g("*", 5), g("aaaaaaaaaaaa", 2)), "aaaaaaaaaaa", 5}, {list(g("*", 5), g("aaaaaaaaaaaa", 2)), "aaaaaaaaaaaaa", 5},
	} {
		if m := acl.Modes(x.l, x.user); m != x.want {
			t.Errorf("P501: Modes(%v, %q): %d, want %d", x.l, x.user, m, x.want)
		}
	}
	for _, s := range noNames() {
		if m := acl.Modes(list(g("*", 5), g("a", 2), g("z", 3)), s); m != 5 {
			t.Errorf("P501: Modes of %q, who is no name: %d", s, m)
		}
		if m := acl.Modes(list(g("a", 2), g("aa", 7), g("z", 3)), s); m != 0 {
			t.Errorf("P501: Modes of %q, who is no name, without `*`: %d", s, m)
		}
	}
}

func TestSetRefuses(t *testing.T) { // P502, P4, P6
	lists := [][]api.Grant{nil, {}, list(g("a", 6)), list(g("*", 1)), list(g("*", 1), g("a", 6), g("b", 2), g("c", 2))}
	refused := func(l []api.Grant, user string, modes int, want api.Errno) {
		t.Helper()
		was := slices.Clone(l)
		if out, e := acl.Set(l, user, modes); e != want || len(out) != 0 {
			t.Errorf("P502: Set(%v, %q, %d): %v, %v, want %v", l, user, modes, out, e, want)
		}
		if !slices.Equal(l, was) {
			t.Errorf("P5: Set(%v, %q, %d) has changed the list: %v", was, user, modes, l)
		}
	}
	for _, l := range lists {
		for _, s := range noNames() { // ErrArg ahead of ErrNone (0), of ErrMany (a full list)
			for m := -1; m <= 8; m++ {
				refused(l, s, m, api.ErrArg)
			}
		}
		for _, m := range far() {
			for _, s := range []string{"*", "a", "b", "d", "zzzzzzzzzzzz", "0"} {
				refused(l, s, m, api.ErrArg)
			}
		}
		for _, s := range []string{"d", "0", "aa", "zzzzzzzzzzzz"} {
			refused(l, s, 0, api.ErrNone) // of a full list too: taking out is never one too many
		}
	}
	refused(list(g("a", 6)), "*", 0, api.ErrNone)
	refused(list(g("*", 6)), "a", 0, api.ErrNone)
	full := list(g("0", 1), g("a", 6), g("b", 2), g("c", 2))
	for m := 1; m <= 7; m++ {
		for _, s := range []string{"*", "00", "9", "aa", "bb", "d"} {
			refused(full, s, m, api.ErrMany)
		}
	}
}

func TestSetExamples(t *testing.T) { // P502
	full := list(g("*", 1), g("a", 6), g("b", 2), g("c", 2))
	for _, x := range []struct {
		l     []api.Grant
		user  string
		modes int
		want  []api.Grant
	}{
		{nil, "a", 6, list(g("a", 6))}, {list(), "*", 7, list(g("*", 7))},
		{list(g("a", 6)), "*", 1, list(g("*", 1), g("a", 6))}, {list(g("0", 6)), "*", 1, list(g("*", 1), g("0", 6))},
		{list(g("*", 1), g("c", 2)), "a", 4, list(g("*", 1), g("a", 4), g("c", 2))},
		{list(g("*", 1), g("a", 6), g("b", 2)), "c", 7, list(g("*", 1), g("a", 6), g("b", 2), g("c", 7))},
		{list(g("a", 1)), "a", 1, list(g("a", 1))},
		{full, "*", 3, list(g("*", 3), g("a", 6), g("b", 2), g("c", 2))}, {full, "b", 5, list(g("*", 1), g("a", 6), g("b", 5), g("c", 2))}, {full, "c", 2, full},
		{full, "*", 0, full[1:]}, {full, "a", 0, list(g("*", 1), g("b", 2), g("c", 2))}, {full, "c", 0, full[:3]},
		{list(g("a", 1)), "a", 0, nil}, {list(g("*", 1)), "*", 0, nil},
	} {
		if out, e := acl.Set(x.l, x.user, x.modes); e != api.OK || !slices.Equal(out, x.want) {
			t.Errorf("P502: Set(%v, %q, %d): %v, %v, want %v", x.l, x.user, x.modes, out, e, x.want)
		}
	}
	for _, s := range append(names(), "*") {
		if out, e := acl.Set(nil, s, 7); e != api.OK || !slices.Equal(out, list(g(s, 7))) {
			t.Errorf("P502: Set(none, %q, 7): %v, %v", s, out, e)
		}
	}
}

// told is a list by what it says alone: who has which.
type told map[string]int

// grants writes it down as the document asks for.
func (d told) grants() []api.Grant {
	var users []string
	for u := range d {
		users = append(users, u)
	}
	sort.Strings(users)
	var out []api.Grant
	for _, u := range users {
		out = append(out, g(u, d[u]))
	}
	return out
}

// has are a user's modes.
func (d told) has(user string) int {
	if m, ok := d[user]; ok {
		return m
	}
	return d["*"]
}

// set says the same as the document of a name or `*`, and of modes 0 to 7.
func (d told) set(user string, modes int) (told, api.Errno) {
	out := told{}
	for u, m := range d {
		out[u] = m
	}
	_, has := d[user]
	switch {
	case modes == 0 && !has:
		return nil, api.ErrNone
	case modes == 0:
		delete(out, user)
		return out, api.OK
	}
	out[user] = modes
	if len(out) > 4 {
		return nil, api.ErrMany
	}
	return out, api.OK
}

// everyList goes through all lists of those users with those modes.
func everyList(users []string, modes []int, f func(d told)) {
	d := told{}
	var from func(i int)
	from = func(i int) {
		if i == len(users) {
			f(d)
			return
		}
		from(i + 1)
		if len(d) < 4 {
			for _, m := range modes {
				d[users[i]] = m
				from(i + 1)
			}
			delete(d, users[i])
		}
	}
	from(0)
}

// holdSet holds one Set to what the document says of it, for all that ask afterwards.
func holdSet(t *testing.T, d told, user string, modes int, asking []string) {
	t.Helper()
	l := d.grants()
	want, wantE := d.set(user, modes)
	out, e := acl.Set(l, user, modes)
	if e != wantE || !slices.Equal(out, want.grants()) {
		t.Fatalf("P502: Set(%v, %q, %d): %v, %v, want %v, %v", l, user, modes, out, e, want.grants(), wantE)
	}
	if e != api.OK {
		return
	}
	if acl.Check(out) != api.OK {
		t.Fatalf("P503: Set(%v, %q, %d): %v, which Check refuses", l, user, modes, out)
	}
	for _, u := range asking {
		was, is := acl.Modes(l, u), acl.Modes(out, u)
		if was != d.has(u) || is != want.has(u) {
			t.Fatalf("P501: Modes of %q: %d, after Set(%v, %q, %d) %d", u, was, l, user, modes, is)
		}
		_, own := d[u]
		switch {
		case u == user && modes > 0 && is != modes:
			t.Fatalf("P503: Set(%v, %q, %d), then Modes: %d", l, user, modes, is)
		case u != user && (user != "*" || own) && is != was:
			t.Fatalf("P503: Set(%v, %q, %d) has changed those of %q: %d, %d", l, user, modes, u, was, is)
		case user == "*" && !own && is != modes: // nought, once it is taken out
			t.Fatalf("P503: Set(%v, %q, %d), then Modes of %q: %d", l, user, modes, u, is)
		}
	}
}

func TestSetOfEveryList(t *testing.T) { // P501, P502, P503
	users := []string{"*", "0", "a", "ab", "b", "zz"}
	asking := append(slices.Clone(users), "", "A", "aa", "c", "**", "9", "~")
	everyList(users, []int{1, 4, 6}, func(d told) {
		if e := acl.Check(d.grants()); e != api.OK {
			t.Fatalf("P501: Check(%v): %v", d.grants(), e)
		}
		for _, u := range append(slices.Clone(users), "9", "aa") {
			for m := range 8 {
				holdSet(t, d, u, m, asking)
			}
		}
	})
}

func TestRowsOfSets(t *testing.T) { // P502, P503: one Set upon another.
	r := rand.New(rand.NewPCG(5, 5))
	users := inOrder()
	asking := append(slices.Clone(users), "", "A", "nobody")
	for range 300 {
		d := told{}
		var l []api.Grant
		for range 40 {
			u, m := users[r.IntN(len(users))], r.IntN(8)
			if len(l) > 0 && r.IntN(3) == 0 {
				u = l[r.IntN(len(l))].User
			}
			holdSet(t, d, u, m, asking)
			next, e := d.set(u, m)
			out, e2 := acl.Set(l, u, m)
			if e2 != e {
				t.Fatalf("P502: Set(%v, %q, %d): %v, want %v", l, u, m, e2, e)
			}
			if e == api.OK {
				d, l = next, out
			}
			if !slices.Equal(l, d.grants()) {
				t.Fatalf("P502: %v, want %v", l, d.grants())
			}
		}
	}
}

// roomy is a list with spare room behind it, and all of its room.
func roomy(l []api.Grant) (in, all []api.Grant) {
	all = make([]api.Grant, len(l)+6)
	copy(all, l)
	for i := len(l); i < len(all); i++ {
		all[i] = g("spare"+fmt.Sprint(i), 100+i)
	}
	return all[:len(l)], all
}

// scrawl writes over all of a list's room.
func scrawl(l []api.Grant) {
	l = l[:cap(l)]
	for i := range l {
		l[i] = g("scrawl", -9)
	}
}

func TestMemory(t *testing.T) { // P2, P3
	users := []string{"*", "a", "b", "c", "d"}
	everyList(users, []int{2, 7}, func(d told) {
		for _, u := range append(slices.Clone(users), "0", "bb", "e", "", "A") {
			for _, m := range []int{-1, 0, 1, 7, 8} {
				in, all := roomy(d.grants())
				was := slices.Clone(all)
				out, e := acl.Set(in, u, m)
				acl.Check(in)
				acl.Modes(in, u)
				if !slices.Equal(all, was) {
					t.Fatalf("P2: Set(%v, %q, %d) has changed what was handed in: %v", d.grants(), u, m, all)
				}
				said := slices.Clone(out)
				again, e2 := acl.Set(in, u, m)
				if e2 != e || !slices.Equal(again, said) {
					t.Fatalf("P3: Set(%v, %q, %d): %v, %v; again: %v, %v", in, u, m, said, e, again, e2)
				}
				scrawl(again)
				if !slices.Equal(all, was) || !slices.Equal(out, said) {
					t.Fatalf("P2: Set(%v, %q, %d): the answer shares memory with the list or with another answer", d.grants(), u, m)
				}
				scrawl(all)
				if !slices.Equal(out, said) {
					t.Fatalf("P2: Set(%v, %q, %d): the answer is the list's memory", d.grants(), u, m)
				}
			}
		}
	})
}

func TestNoListIsAnEmptyOne(t *testing.T) { // P2
	for _, u := range []string{"*", "a", "", "A"} {
		if acl.Modes(nil, u) != acl.Modes([]api.Grant{}, u) {
			t.Errorf("P2: Modes of %q", u)
		}
		for m := -1; m <= 8; m++ {
			a, e := acl.Set(nil, u, m)
			b, e2 := acl.Set([]api.Grant{}, u, m)
			if e != e2 || !slices.Equal(a, b) {
				t.Errorf("P2: Set of no list, %q, %d: %v, %v; of an empty one: %v, %v", u, m, a, e, b, e2)
			}
		}
	}
}

func TestListsThatMayNotBe(t *testing.T) { // P1, P2, P8
	r := rand.New(rand.NewPCG(8, 5))
	users := append(append(noNames(), names()...), "*", "*", "a", "b")
	for range 20000 {
		var l []api.Grant
		for range r.IntN(9) {
			l = append(l, g(users[r.IntN(len(users))], r.IntN(12)-2))
		}
		in, all := roomy(l)
		was := slices.Clone(all)
		u, m := users[r.IntN(len(users))], r.IntN(12)-2
		acl.Check(in)
		acl.Modes(in, u)
		out, e := acl.Set(in, u, m)
		if e != api.OK && len(out) > 0 {
			t.Fatalf("P4: Set(%v, %q, %d): %v, %v", l, u, m, out, e)
		}
		scrawl(out)
		if !slices.Equal(all, was) {
			t.Fatalf("P2: Set(%v, %q, %d) has changed what was handed in", l, u, m)
		}
	}
	long := make([]api.Grant, 1<<20)
	acl.Modes(long, "a")
	if _, e := acl.Set(long, "a", 9); e != api.ErrArg {
		t.Errorf("P502: Set of modes 9: %v", e)
	}
}
