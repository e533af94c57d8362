package login_test

import (
	"hash/fnv"
	"math"
	"math/rand/v2"
	"slices"
	"strings"
	"testing"

	"donjon/api"
	"donjon/label"
	"donjon/login"
	"donjon/user"
)

func lab(sec, secCats, integ, intCats int) api.Label {
	return api.Label{Sec: sec, SecCats: secCats, Int: integ, IntCats: intCats}
}

func bottom() api.Label { return lab(0, 0, 3, 255) }

// high is in the middle: each of its numbers has room both ways.
func high() api.Label { return lab(1, 6, 2, 24) }

func top() api.Label { return lab(3, 255, 0, 0) }

// place is a label, and how it lies to high.
type place struct {
	why string
	at  api.Label
}

// under are labels that high is over.
func under() []place {
	return []place{
		{"itself", high()}, {"below by a level", lab(0, 6, 2, 24)}, {"below by a category", lab(1, 4, 2, 24)}, {"below by all categories", lab(1, 0, 2, 24)}, {"below by integrity", lab(1, 6, 3, 24)},
		{"below by a category of integrity", lab(1, 6, 2, 25)}, {"below by all categories of integrity", lab(1, 6, 2, 255)}, {"below by secrecy", lab(0, 0, 2, 24)}, {"below by all", bottom()},
	}
}

// notUnder are labels that high is not over: some above it, some beside it.
func notUnder() []place {
	return []place{
		{"above by a level", lab(2, 6, 2, 24)}, {"above by a category", lab(1, 7, 2, 24)}, {"above by integrity", lab(1, 6, 1, 24)}, {"above by a category of integrity", lab(1, 6, 2, 16)},
		{"above by all categories of integrity", lab(1, 6, 2, 0)}, {"above by all", top()}, {"beside by categories", lab(1, 5, 2, 24)}, {"beside by categories of integrity", lab(1, 6, 2, 17)},
		{"beside by secrecy", lab(2, 4, 2, 24)}, {"beside by integrity", lab(1, 6, 1, 25)}, {"beside by both", lab(2, 6, 3, 24)}, {"beside by both the other way", lab(0, 6, 1, 24)},
		{"below but for a level", lab(2, 0, 3, 255)}, {"below but for a category", lab(0, 128, 3, 255)}, {"below but for integrity", lab(0, 0, 1, 255)}, {"below but for a category of integrity", lab(0, 0, 3, 247)},
	}
}

// everywhere are all of these.
func everywhere() []place { return append(under(), notUnder()...) }

// comesTo tells P801 by the library's chain, which is the same one.
func comesTo(salt int, word string) uint64 {
	h := fnv.New64a()
	for i := range 8 {
		h.Write([]byte{byte(uint64(salt) >> (8 * (7 - i)))})
	}
	h.Write([]byte(word))
	return h.Sum64()
}

func who(name string, salt int, word string, clear api.Label) api.User {
	return api.User{Name: name, Salt: salt, Hash: comesTo(salt, word), Clear: clear, Officer: salt%2 == 0}
}

// people are ann (aa), bob (bb), cid (an empty word), dan (whose word is a name), eve (whose word is no text of runes).
func people() []api.User {
	return []api.User{who("ann", 1, "aa", high()), who("bob", 2, "bb", bottom()), who("cid", 3, "", top()), who("dan", 4, "ann", high()), who("eve", -5, "\xff\x00 ", high())}
}

// lines are what may be typed: names, words, what is neither, what is told.
func lines() []string {
	return []string{
		"", "ann", "bob", "cid", "aa", "bb", "x", " ", "ann ", " ann", "an n", "ann aa", "Ann", "ann\n", "ann\x00", "\x00", "\xff", "\xff\x00 ", "ann\xfe", "\xed\xa0\x80", "é", "*", "/l0",
		"attention", "name", "word", "in", "no", "locked", "stop", "out", "!", strings.Repeat("a", 12), strings.Repeat("a", 13), strings.Repeat("a", 200), strings.Repeat("ann ", 51), strings.Repeat("\x80", 1<<16),
	}
}

// shortLines are all but the last of these.
func shortLines() []string { return lines()[:len(lines())-1] }

// terms are one of each state and each number of tries that failed.
func terms() []login.Term {
	var out []login.Term
	for fails := range 3 {
		out = append(out,
			login.Term{State: 0, Fails: fails}, login.Term{State: 1, Fails: fails},
			login.Term{State: 2, User: "ann", Fails: fails}, login.Term{State: 2, Fails: fails}, login.Term{State: 2, User: "bob", Fails: fails}, login.Term{State: 2, User: "no body", Fails: fails})
	}
	return append(out, login.Term{State: 3, User: "ann"}, login.Term{State: 3, User: "bob"}, login.Term{State: 4, Wait: 10}, login.Term{State: 4, Wait: 2}, login.Term{State: 4, Wait: 1})
}

// answer is all that a call tells.
type answer struct {
	term  login.Term
	told  string
	tried bool
	went  api.Errno
}

func attend(t login.Term) answer {
	t, told := login.Attention(t)
	return answer{term: t, told: told}
}

func typed(t login.Term, users []api.User, at api.Label, line string) answer {
	t, told, tried, e := login.Input(t, users, at, line)
	return answer{t, told, tried, e}
}

// The same once more, by the words of the document.

// over says W1, category by category.
func over(a, b api.Label) bool {
	for c := 1; c < 256; c *= 2 {
		if b.SecCats&c > a.SecCats&c || a.IntCats&c > b.IntCats&c {
			return false
		}
	}
	return a.Sec >= b.Sec && a.Int <= b.Int
}

func mayEnter(users []api.User, name, word string, at api.Label) bool {
	for _, u := range users {
		if u.Name == name && u.Hash == comesTo(u.Salt, word) && over(u.Clear, at) {
			return true
		}
	}
	return false
}

func wantAttention(t login.Term) answer {
	if t.State == 4 {
		return answer{term: t, told: "locked"}
	}
	return answer{term: login.Term{State: 1, Fails: t.Fails}, told: "name"}
}

func wantInput(t login.Term, users []api.User, at api.Label, line string) answer {
	if t.State != 2 {
		if t.State == 1 {
			t.State, t.User = 2, line
			return answer{term: t, told: "word"}
		}
		return answer{term: t, told: []string{"attention", "", "", "", "locked"}[t.State]}
	}
	if mayEnter(users, t.User, line, at) {
		return answer{login.Term{State: 3, User: t.User}, "in", true, api.OK}
	}
	if t.Fails == 2 {
		return answer{login.Term{State: 4, Wait: 10}, "locked", true, api.ErrName}
	}
	return answer{login.Term{Fails: t.Fails + 1}, "no", true, api.ErrName}
}

func wantTick(t login.Term) login.Term {
	if t.State == 4 {
		if t.Wait--; t.Wait == 0 {
			t.State = 0
		}
	}
	return t
}

func TestFaces(t *testing.T) { // the numbers of the states, and of the bounds that the chapter names
	if login.Idle != 0 || login.Name != 1 || login.Word != 2 || login.Open != 3 || login.Locked != 4 || api.Tries != 3 || api.Lock != 10 {
		t.Error("the states' numbers, or the bounds, are others")
	}
}

func TestExample(t *testing.T) { // the chapter's example 1
	for _, l := range [][]api.User{nil, {}, people()} {
		if got := typed(login.Term{}, l, bottom(), "ann"); got != (answer{told: "attention"}) {
			t.Errorf("P1902: Input at Idle: %+v", got)
		}
	}
}

func TestAttention(t *testing.T) { // P1901
	for fails := range 3 {
		for _, x := range []login.Term{{State: login.Idle}, {State: login.Name}, {State: login.Word}, {State: login.Word, User: "ann"}, {State: login.Word, User: "\xff "}, {State: login.Open, User: "ann"}} {
			x.Fails = fails
			want := answer{term: login.Term{State: login.Name, Fails: fails}, told: "name"}
			if got := attend(x); got != want {
				t.Errorf("P1901: Attention of %+v: %+v", x, got)
			}
			if got := attend(attend(x).term); got != want {
				t.Errorf("P1901: Attention twice of %+v: %+v", x, got)
			}
		}
	}
	for i := range 30 { // Locked stays as it is, with Fails that no lock has, too
		x := login.Term{State: login.Locked, Fails: i % 3, Wait: 1 + i/3}
		if got := attend(x); got != (answer{term: x, told: "locked"}) {
			t.Errorf("P1901: Attention of %+v: %+v", x, got)
		}
		if got := attend(attend(x).term); got != (answer{term: x, told: "locked"}) {
			t.Errorf("P1901: Attention twice of %+v: %+v", x, got)
		}
	}
}

func TestInputThatChangesNothing(t *testing.T) { // P1902: at Idle, Open, Locked
	told := map[int]string{login.Idle: "attention", login.Open: "", login.Locked: "locked"}
	seen := map[int]int{}
	for _, x := range terms() {
		want, is := told[x.State]
		if !is {
			continue
		}
		seen[x.State]++
		for _, l := range [][]api.User{nil, people()} {
			for _, at := range []api.Label{bottom(), high(), top()} {
				for _, line := range lines() {
					if got := typed(x, l, at, line); got != (answer{term: x, told: want}) {
						t.Errorf("P1902: Input of %+v, %.20q: %+v", x, line, got)
					}
					if got := typed(typed(x, l, at, "ann").term, l, at, "aa"); got != (answer{term: x, told: want}) { // a name and its word, without attention
						t.Errorf("P1902: a name and its word at %+v: %+v", x, got)
					}
				}
			}
		}
	}
	if seen[login.Idle] != 3 || seen[login.Open] != 2 || seen[login.Locked] != 3 {
		t.Errorf("the test's terminals are others: %v", seen)
	}
}

func TestInputAtName(t *testing.T) { // P1902: whoever it is, and whether there is such a user is not told
	for fails := range 3 {
		x := login.Term{State: login.Name, Fails: fails}
		for _, l := range [][]api.User{nil, {}, people(), people()[:1]} {
			for _, at := range []api.Label{bottom(), high(), top()} {
				for _, line := range lines() {
					want := answer{term: login.Term{State: login.Word, User: line, Fails: fails}, told: "word"}
					if got := typed(x, l, at, line); got != want {
						t.Errorf("P1902: Input of %+v, %.20q: %.200v", x, line, got)
					}
				}
			}
		}
	}
	for c := range 256 { // byte by byte
		line := "a" + string([]byte{byte(c)}) + "n"
		if got := typed(login.Term{State: login.Name}, people(), high(), line); got != (answer{term: login.Term{State: login.Word, User: line}, told: "word"}) {
			t.Errorf("P1902: Input at Name of %q: %+v", line, got)
		}
	}
}

// holdWord types a line at Word, with each number of tries that failed ahead of it.
func holdWord(t *testing.T, why string, l []api.User, name, line string, at api.Label, in bool) {
	t.Helper()
	for fails := range 3 {
		want := answer{login.Term{State: login.Idle, Fails: fails + 1}, "no", true, api.ErrName}
		if fails == 2 {
			want = answer{login.Term{State: login.Locked, Wait: 10}, "locked", true, api.ErrName}
		}
		if in {
			want = answer{login.Term{State: login.Open, User: name}, "in", true, api.OK}
		}
		if got := typed(login.Term{State: login.Word, User: name, Fails: fails}, l, at, line); got != want {
			t.Errorf("P1902: %s: %.20q, %.20q, Fails %d: %.200v, not %v", why, name, line, fails, got, want)
		}
	}
}

func TestInputAtWord(t *testing.T) { // P1902, P902, P4
	for _, x := range under() {
		holdWord(t, x.why, people(), "ann", "aa", x.at, true)
		holdWord(t, x.why, people(), "eve", "\xff\x00 ", x.at, true)
		holdWord(t, x.why, people(), "cid", "", x.at, true)
		holdWord(t, x.why, people(), "bob", "bb", x.at, x.at == bottom())
		holdWord(t, x.why, people(), "ann", "bb", x.at, false)
	}
	for _, x := range notUnder() {
		holdWord(t, x.why, people(), "ann", "aa", x.at, false)
		holdWord(t, x.why, people(), "ann", "bb", x.at, false)
		holdWord(t, x.why, people(), "cid", "", x.at, true)
	}
	for _, line := range lines() {
		holdWord(t, "ann's word", people(), "ann", line, bottom(), line == "aa")
		holdWord(t, "bob's word", people(), "bob", line, bottom(), line == "bb")
		holdWord(t, "cid's word", people(), "cid", line, bottom(), line == "")
		holdWord(t, "dan's word", people(), "dan", line, bottom(), line == "ann")
		holdWord(t, "eve's word", people(), "eve", line, bottom(), line == "\xff\x00 ")
		holdWord(t, "nobody's word", people(), "zed", line, bottom(), false)
		holdWord(t, "an empty name's word", people(), "", line, bottom(), false)
		holdWord(t, "no users", nil, "ann", line, bottom(), false)
		holdWord(t, "no users", []api.User{}, "", line, bottom(), false)
		if line != "ann" && line != "bob" && line != "cid" {
			holdWord(t, "no such name", people(), line, "aa", bottom(), false)
			holdWord(t, "no such name, no word", people(), line, "", bottom(), false)
		}
	}
	for _, line := range []string{"a", "aaa", "aA", "aa ", " aa", "aa\n", "aa\x00", "ab", "a\xe1"} {
		holdWord(t, "a word near ann's", people(), "ann", line, bottom(), false)
	}
}

func TestUsersThatMayBe(t *testing.T) { // the users of this test are such as P902 speaks of, and the second telling is that of the layers below
	if e := user.Check(people()); e != api.OK {
		t.Fatalf("user.Check: %v", e)
	}
	n := 0
	for i, x := range everywhere() {
		if is := i < len(under()); label.Check(x.at) != api.OK || label.Over(high(), x.at) != is || over(high(), x.at) != is {
			t.Errorf("the test's label %s, %v, is none of those", x.why, x.at)
		}
		for _, name := range lines() {
			for _, word := range lines() {
				may := mayEnter(people(), name, word, x.at)
				if may != (user.Enter(people(), name, word, x.at) == api.OK) {
					t.Errorf("P902: %.20q, %.20q at %s", name, word, x.why)
				}
				if may {
					n++
				}
			}
		}
	}
	if want := len(under()) + len(everywhere()) + 1; n != want { // ann, cid, bob at the bottom: dan and eve are no lines
		t.Errorf("of the test's names and words %d enter, not %d", n, want)
	}
}

// told makes of "!" attention, of "." a tick, of all else a line, and holds what is told.
func told(t *testing.T, x login.Term, pairs ...string) login.Term {
	t.Helper()
	for i := 0; i < len(pairs); i += 2 {
		was, got := x, answer{}
		switch pairs[i] {
		case "!":
			got = attend(x)
		case ".":
			got.term = login.Tick(x)
		default:
			got = typed(x, people(), high(), pairs[i])
		}
		if x = got.term; got.told != pairs[i+1] {
			t.Errorf("P1904: %d: %q at %+v: %q, not %q", i/2, pairs[i], was, got.told, pairs[i+1])
		}
	}
	return x
}

func hold(t *testing.T, x, want login.Term) {
	t.Helper()
	if x != want {
		t.Errorf("P1904: %+v, not %+v", x, want)
	}
}

func TestFails(t *testing.T) { // P1901, P1902, P1904
	no := []string{"!", "name", "ann", "word", "x", "no"}
	var x login.Term
	x = told(t, x, no...)
	hold(t, x, login.Term{Fails: 1})
	x = told(t, x, no...)
	hold(t, x, login.Term{Fails: 2})
	x = told(t, x, "aa", "attention", "!", "name", "!", "name", "ann", "word", "!", "name", "dan", "word")
	hold(t, x, login.Term{State: login.Word, User: "dan", Fails: 2}) // names that attention left are no tries
	in := told(t, x, "ann", "in")
	hold(t, in, login.Term{State: login.Open, User: "dan"})
	hold(t, told(t, in, "x", "", "!", "name", "ann", "word", "x", "no", "!", "name", "bob", "word", "bb", "no"), login.Term{Fails: 2}) // from 0 again
	hold(t, told(t, x, "aa", "locked"), login.Term{State: login.Locked, Wait: 10})
	hold(t, told(t, x, ".", "", ".", "", "", "locked"), login.Term{State: login.Locked, Wait: 10})                                                                // ticks are no way out
	hold(t, told(t, login.Term{}, "!", "name", "zed", "word", "x", "no", "!", "name", "", "word", "", "no"), login.Term{Fails: 2})                                // under names that nobody has
	hold(t, told(t, login.Term{Fails: 2}, "!", "name", "bob", "word", "bb", "locked", "!", "locked", "ann", "locked"), login.Term{State: login.Locked, Wait: 10}) // the right word, at the wrong label
}

func TestTick(t *testing.T) { // P1903
	for _, x := range terms() {
		want := x
		switch {
		case x == login.Term{State: login.Locked, Wait: 10}:
			want.Wait = 9
		case x == login.Term{State: login.Locked, Wait: 2}:
			want.Wait = 1
		case x == login.Term{State: login.Locked, Wait: 1}:
			want = login.Term{}
		}
		if got := login.Tick(x); got != want {
			t.Errorf("P1903: Tick of %+v: %+v", x, got)
		}
	}
}

func TestLock(t *testing.T) { // P1902, P1903, P1904: three that fail, and ten ticks, whatever is done between
	between := [][]string{nil, {"!", "locked"}, {"ann", "locked"}, {"!", "locked", "ann", "locked", "aa", "locked"}, {"", "locked", "\xff", "locked"}, {"!", "locked", "!", "locked"}}
	for _, quiet := range between {
		var x login.Term
		for i := range 3 {
			x = told(t, x, "!", "name", "ann", "word", "a", []string{"no", "no", "locked"}[i])
		}
		for wait := 10; wait > 0; wait-- {
			hold(t, x, login.Term{State: login.Locked, Wait: wait})
			hold(t, told(t, x, quiet...), login.Term{State: login.Locked, Wait: wait})
			x = login.Tick(told(t, x, quiet...))
		}
		hold(t, x, login.Term{})
		hold(t, told(t, x, ".", "", "ann", "attention", "!", "name", "ann", "word", "x", "no", "!", "name", "ann", "word", "x", "no"), login.Term{Fails: 2}) // three tries again
		hold(t, told(t, x, "!", "name", "ann", "word", "aa", "in"), login.Term{State: login.Open, User: "ann"})
	}
}

func TestSecondTelling(t *testing.T) { // P1901 to P1903, for all terminals and lines of this test at once
	for _, x := range terms() {
		if got := attend(x); got != wantAttention(x) {
			t.Errorf("P1901: Attention of %+v: %+v", x, got)
		}
		if got := login.Tick(x); got != wantTick(x) {
			t.Errorf("P1903: Tick of %+v: %+v", x, got)
		}
		for _, line := range lines() {
			for _, y := range everywhere() {
				if got, want := typed(x, people(), y.at, line), wantInput(x, people(), y.at, line); got != want {
					t.Errorf("P1902: Input of %+v, %.20q at %v: %.200v, not %.200v", x, line, y.at, got, want)
				}
			}
		}
	}
}

// read tells a terminal's state by its whole row of attention (!), ticks (.) and lines from the beginning on, and is the third telling: it keeps the lines behind the last attention, and counts.
func read(row []string, users []api.User, at api.Label) login.Term {
	var behind []string
	attended, fails, locked := false, 0, 0
	for _, s := range row {
		switch {
		case s == "." && locked > 0:
			locked--
		case s == "." || locked > 0:
		case s == "!":
			attended, behind = true, nil
		case attended:
			behind = append(behind, s)
			if len(behind) != 2 {
				continue
			}
			if mayEnter(users, behind[0], behind[1], at) {
				fails = 0
				continue
			}
			attended = false
			if fails++; fails == 3 {
				fails, locked = 0, 10
			}
		}
	}
	switch {
	case locked > 0:
		return login.Term{State: login.Locked, Wait: locked}
	case !attended:
		return login.Term{Fails: fails}
	case len(behind) == 0:
		return login.Term{State: login.Name, Fails: fails}
	case len(behind) == 1:
		return login.Term{State: login.Word, User: behind[0], Fails: fails}
	}
	return login.Term{State: login.Open, User: behind[0], Fails: fails}
}

func step(x login.Term, s string, users []api.User, at api.Label) answer {
	switch s {
	case "!":
		return attend(x)
	case ".":
		return answer{term: login.Tick(x)}
	}
	return typed(x, users, at, s)
}

func wantStep(x login.Term, s string, users []api.User, at api.Label) answer {
	switch s {
	case "!":
		return wantAttention(x)
	case ".":
		return answer{term: wantTick(x)}
	}
	return wantInput(x, users, at, s)
}

// wellFormed says what the chapter says of a Term, behind its types.
func wellFormed(x login.Term) bool {
	named := x.User == "" || x.State == login.Word || x.State == login.Open
	return x.State >= 0 && x.State <= 4 && (x.Wait > 0) == (x.State == login.Locked) && x.Wait >= 0 && x.Wait <= 10 && x.Fails >= 0 && x.Fails <= 2 && named
}

// cameIn says whether a row that ends in a session has it of attention, then a name, then its word, with nothing but ticks between.
func cameIn(row []string, x login.Term, users []api.User, at api.Label) bool {
	typed := slices.DeleteFunc(slices.Clone(row), func(s string) bool { return s == "." })
	for i := len(typed) - 3; i >= 0; i-- {
		if typed[i] == "!" {
			return !slices.Contains(typed[i+1:], "!") && typed[i+1] == x.User && mayEnter(users, typed[i+1], typed[i+2], at)
		}
	}
	return false
}

// holdRow takes the last one of a row from x, and answers what it made of it.
func holdRow(t *testing.T, x login.Term, row []string, users []api.User, at api.Label) answer {
	t.Helper()
	s := row[len(row)-1]
	got := step(x, s, users, at)
	if want := wantStep(x, s, users, at); got != want {
		t.Fatalf("P1901 to P1903: %q at %+v: %+v, not %+v", s, x, got, want)
	}
	if want := read(row, users, at); got.term != want {
		t.Fatalf("P1904: %q: %+v, not %+v", row, got.term, want)
	}
	if !wellFormed(got.term) {
		t.Fatalf("P1904: %q: %+v is no terminal", row, got.term)
	}
	if got.term.State == login.Open && !cameIn(row, got.term, users, at) {
		t.Fatalf("P1904: %q: %+v came in without a word", row, got.term)
	}
	return got
}

// tally counts what was told, and in how many steps.
type tally map[string]int

func (n tally) hold(t *testing.T, least int) {
	t.Helper()
	for _, told := range []string{"", "attention", "name", "word", "in", "no", "locked"} {
		if n[told] < least {
			t.Errorf("the test's rows are lopsided: %v", n)
		}
	}
}

// longer holds all rows that go on from one by so many steps, and answers how many there are.
func longer(t *testing.T, x login.Term, row []string, steps int, count tally) int {
	if steps == 0 {
		return 1
	}
	n := 0
	for _, s := range []string{"!", ".", "ann", "aa", "x"} {
		next := append(slices.Clone(row), s)
		got := holdRow(t, x, next, people(), high())
		count[got.told]++
		n += longer(t, got.term, next, steps-1, count)
	}
	return n
}

func TestAllShortRows(t *testing.T) { // P1904
	count := tally{}
	once, twice := []string{"!", "ann", "x"}, []string{"!", "ann", "x", "!", "x", "x"}
	locked := append(slices.Clone(twice), "!", "ann", "x", ".", ".", ".", ".", ".", ".", ".", ".")
	for i, front := range [][]string{nil, once, twice, locked} {
		x := login.Term{}
		for i := range front {
			x = holdRow(t, x, front[:i+1], people(), high()).term
		}
		hold(t, x, []login.Term{{}, {Fails: 1}, {Fails: 2}, {State: login.Locked, Wait: 2}}[i])
		if n := longer(t, x, front, 6, count); n != 15625 {
			t.Errorf("%d rows of 6", n)
		}
	}
	count.hold(t, 200)
}

// draw tells what comes next in a row: mostly what leads on from x, sometimes whatever.
func draw(r *rand.Rand, x login.Term, whatever []string) string {
	names, words := []string{"ann", "ann", "bob", "cid", "dan", "eve", "zed", ""}, []string{"aa", "bb", "", "ann", "x", "\xff\x00 "}
	switch n := r.IntN(20); {
	case n == 0:
		return "!"
	case n < 3:
		return "."
	case n == 3:
		return whatever[r.IntN(len(whatever))]
	case x.State == login.Idle, x.State == login.Open && n < 8:
		return "!"
	case x.State == login.Locked && n < 15:
		return "."
	case x.State == login.Word && n < 12:
		return wordOf(x.User)
	case x.State == login.Name:
		return names[r.IntN(len(names))]
	}
	return words[r.IntN(len(words))]
}

// wordOf tells the word of one of people.
func wordOf(name string) string {
	return map[string]string{"ann": "aa", "bob": "bb", "cid": "", "dan": "ann", "eve": "\xff\x00 "}[name]
}

func TestManyRows(t *testing.T) { // P1901 to P1904
	r := rand.New(rand.NewPCG(19, 4))
	count, locks, whatever := tally{}, 0, shortLines()
	for range 1500 {
		at := everywhere()[r.IntN(len(everywhere()))].at
		x, row, ticks := login.Term{}, []string(nil), 0
		for range 120 {
			s := draw(r, x, whatever)
			row = append(row, s)
			got := holdRow(t, x, row, people(), at)
			count[got.told]++
			if s == "." && x.State == login.Locked {
				ticks++
			}
			if left := x.State == login.Locked && got.term.State != login.Locked; left && ticks != 10 {
				t.Fatalf("P1904: %q: locked for %d ticks", row, ticks)
			} else if left {
				ticks = 0
				locks++
			} else if x.State != login.Locked && ticks != 0 {
				t.Fatalf("P1904: %q: %d ticks of a lock that was left", row, ticks)
			}
			x = got.term
		}
	}
	count.hold(t, 1000)
	if locks < 500 {
		t.Errorf("the test's rows leave %d locks", locks)
	}
}

// roomy are users with spare room behind them, and all of that room.
func roomy(l []api.User) (in, all []api.User) {
	all = append(slices.Clone(l), slices.Repeat([]api.User{who("spare", 9, "w", top())}, 20)...)
	return all[:len(l)], all
}

func TestMemory(t *testing.T) { // P2, P3
	for n := range len(people()) + 1 {
		in, all := roomy(people()[:n])
		was := slices.Clone(all)
		for _, x := range terms() {
			for _, line := range append(lines(), "spare", "w") {
				for _, y := range []api.Label{bottom(), high(), top()} {
					got, again := typed(x, in, y, line), typed(x, in, y, line)
					if got != again || got != wantInput(x, people()[:n], y, line) {
						t.Fatalf("P3: Input of %+v, %.20q: %.200v, then %.200v", x, line, got, again)
					}
				}
			}
			if attend(x) != attend(x) || login.Tick(x) != login.Tick(x) {
				t.Fatalf("P3: Attention or Tick of %+v", x)
			}
		}
		if got := typed(login.Term{State: login.Word, User: "spare"}, in, bottom(), "w"); got.told != "no" {
			t.Errorf("P2: one of the spare room: %+v", got)
		}
		if !slices.Equal(all, was) {
			t.Errorf("P2: what was handed in is changed: %v", all)
		}
	}
}

func TestNothingIsKept(t *testing.T) { // P2: the users are those that are handed in with the word, and no others
	l := people()
	x := typed(attend(login.Term{}).term, l, high(), "ann").term
	in := typed(x, l, high(), "aa")
	for i := range l {
		l[i] = who("scrawl", 0, "", bottom())
	}
	if in != (answer{login.Term{State: login.Open, User: "ann"}, "in", true, api.OK}) || x != (login.Term{State: login.Word, User: "ann"}) {
		t.Errorf("P2: what was answered is changed: %+v, %+v", in, x)
	}
	if got := typed(x, l, high(), "aa"); got.told != "no" {
		t.Errorf("P2: ann is still known: %+v", got)
	}
	if got := typed(login.Term{State: login.Word, User: "scrawl"}, l, bottom(), ""); got.told != "in" {
		t.Errorf("P2: another one is not known yet: %+v", got)
	}
}

func TestNoListIsAnEmptyOne(t *testing.T) { // P2
	for _, x := range terms() {
		for _, line := range lines() {
			if typed(x, nil, bottom(), line) != typed(x, []api.User{}, bottom(), line) || typed(x, nil, bottom(), line) != typed(x, people()[:0], bottom(), line) {
				t.Errorf("P2: Input of %+v, %.20q", x, line)
			}
		}
	}
}

func TestWhatMayNotBe(t *testing.T) { // P1, P2, P8: no panic, an end, and nothing changed
	r := rand.New(rand.NewPCG(19, 8))
	odd := []int{math.MinInt, -1 << 32, -11, -10, -3, -2, -1, 0, 1, 2, 3, 4, 5, 9, 10, 11, 256, 1 << 32, math.MaxInt}
	one := func() int { return odd[r.IntN(len(odd))] }
	texts := shortLines()
	text := func() string { return texts[r.IntN(len(texts))] }
	for range 20000 {
		var l []api.User
		for range r.IntN(20) {
			l = append(l, api.User{Name: text(), Salt: one(), Hash: r.Uint64(), Clear: lab(one(), one(), one(), one())})
		}
		in, all := roomy(l)
		was := slices.Clone(all)
		x, at, line := login.Term{State: one(), User: text(), Fails: one(), Wait: one()}, lab(one(), one(), one(), one()), text()
		got, again := typed(x, in, at, line), typed(x, in, at, line)
		if got != again || attend(x) != attend(x) || login.Tick(x) != login.Tick(x) {
			t.Fatalf("P3: %+v, %q: %+v, then %+v", x, line, got, again)
		}
		if !slices.Equal(all, was) {
			t.Fatalf("P2: what was handed in is changed: %v", all)
		}
	}
	long := strings.Repeat("w", 1<<20)
	for _, x := range append(terms(), login.Term{State: login.Word, User: long}) {
		if got, want := typed(x, make([]api.User, 1<<16), bottom(), long), wantInput(x, nil, bottom(), long); got != want {
			t.Errorf("P1: Input of %.50v, a long line: %.200v, not %.200v", x, got, want)
		}
	}
}
