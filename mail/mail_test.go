package mail_test

import (
	"fmt"
	"math"
	"math/rand/v2"
	"slices"
	"strings"
	"testing"

	"donjon/api"
	"donjon/label"
	"donjon/mail"
	"donjon/path"
)

func lab(sec, secCats, integ, intCats int) api.Label {
	return api.Label{Sec: sec, SecCats: secCats, Int: integ, IntCats: intCats}
}

func bottom() api.Label { return lab(0, 0, 3, 255) }

// high is in the middle: each of its numbers has room both ways.
func high() api.Label { return lab(1, 6, 2, 24) }

func top() api.Label { return lab(3, 255, 0, 0) }

// above are labels over high, each by one part alone, and by all.
func above() map[string]api.Label {
	return map[string]api.Label{
		"by a level": lab(2, 6, 2, 24), "by two levels": lab(3, 6, 2, 24), "by a category": lab(1, 7, 2, 24), "by all categories": lab(1, 255, 2, 24),
		"by integrity": lab(1, 6, 1, 24), "by all integrity's levels": lab(1, 6, 0, 24), "by a category of integrity": lab(1, 6, 2, 8), "by all categories of integrity": lab(1, 6, 2, 0),
		"by secrecy": lab(3, 14, 2, 24), "by integrity in all": lab(1, 6, 0, 16), "by all": top(),
	}
}

// notAbove are labels that are not over high: some below it, some beside it.
func notAbove() map[string]api.Label {
	return map[string]api.Label{
		"below by a level": lab(0, 6, 2, 24), "below by a category": lab(1, 4, 2, 24), "below by all categories": lab(1, 0, 2, 24),
		"below by integrity": lab(1, 6, 3, 24), "below by a category of integrity": lab(1, 6, 2, 25), "below by all": bottom(),
		"beside by categories": lab(1, 5, 2, 24), "beside by categories of integrity": lab(1, 6, 2, 17), "beside by secrecy": lab(2, 4, 2, 24),
		"beside by integrity": lab(1, 6, 1, 25), "beside by secrecy and integrity": lab(2, 6, 3, 24), "beside by both the other way": lab(0, 6, 1, 24),
		"beside by one category among all": lab(3, 253, 0, 0), "beside by one category of integrity alone": lab(3, 255, 0, 32), "above but for a level of integrity": lab(3, 255, 3, 0), "above but for a level": lab(0, 255, 0, 0),
	}
}

// near are labels that differ from high in one number alone.
func near() []api.Label {
	return []api.Label{
		lab(0, 6, 2, 24), lab(2, 6, 2, 24), lab(1, 7, 2, 24), lab(1, 4, 2, 24), lab(1, 5, 2, 24), lab(1, 134, 2, 24),
		lab(1, 6, 1, 24), lab(1, 6, 3, 24), lab(1, 6, 2, 25), lab(1, 6, 2, 16), lab(1, 6, 2, 17), lab(1, 6, 2, 152),
	}
}

// noLabels are those that label.Check refuses.
func noLabels() []api.Label {
	return []api.Label{
		lab(-1, 6, 2, 24), lab(4, 6, 2, 24), lab(1, -1, 2, 24), lab(1, 256, 2, 24), lab(1, 6, -1, 24), lab(1, 6, 4, 24), lab(1, 6, 2, -1), lab(1, 6, 2, 256),
		lab(1+1<<32, 6, 2, 24), lab(1, 6+1<<8, 2, 24), lab(math.MaxInt, math.MaxInt, math.MinInt, math.MinInt), lab(math.MinInt, 0, 0, 0), lab(4, 256, -1, -1),
	}
}

// noNames are those that path.Name refuses.
func noNames() []string {
	out := []string{
		"", "abcdefghijklm", strings.Repeat("a", 200), "/", "/ann", "ann/", "/home/ann", "a/b", "*", "Ann", "anN", "a b", " ann", "ann ", "a-b", "a_b", "a.b", "ann\n", "\x00", "an\x00n", "é", "ann\xff", "\xff", "ａ", "٣",
	}
	for c := range 256 {
		if (c < 'a' || c > 'z') && (c < '0' || c > '9') {
			out = append(out, "a"+string([]byte{byte(c)})+"b")
		}
	}
	return out
}

func names() []string {
	return []string{"a", "z", "0", "9", "ann", "bob", "a0z9", "abcdefghijkl", "012345678901"}
}

func rule(from, to api.Label, word string) api.Rule {
	return api.Rule{From: from, To: to, Word: word}
}

// message is one of ann's for bob.
func message(from, to api.Label, text string) api.Message {
	return api.Message{From: "ann", Label: from, To: "bob", Box: to, Text: text}
}

// to is a message for somebody's box; all else of it is unlike that.
func to(user string, at api.Label, text string) api.Message {
	return api.Message{From: "eve", Label: lab(0, 1, 3, 129), To: user, Box: at, Text: text}
}

func down(word string) []api.Rule { return []api.Rule{rule(high(), bottom(), word)} }

// everyByte is a text of 40 bytes from one on.
func everyByte(from int) string {
	var b []byte
	for i := range 40 {
		b = append(b, byte(from+i))
	}
	return string(b)
}

// The same once more, by the words of the document.

func wantName(s string) bool {
	for i := range len(s) {
		if !strings.Contains("abcdefghijklmnopqrstuvwxyz0123456789", s[i:i+1]) {
			return false
		}
	}
	return len(s) >= 1 && len(s) <= 12
}

func wantLabel(l api.Label) bool {
	return l.Sec>>2 == 0 && l.Int>>2 == 0 && l.SecCats>>8 == 0 && l.IntCats>>8 == 0
}

// over says W1.
func over(a, b api.Label) bool {
	return a.Sec >= b.Sec && b.SecCats&^a.SecCats == 0 && a.Int <= b.Int && a.IntCats&^b.IntCats == 0
}

func wantRule(r []api.Rule, m api.Message) (api.Rule, bool) {
	var out api.Rule
	is := false
	for i := len(r) - 1; i >= 0; i-- { // the first one stays
		if r[i].From == m.Label && r[i].To == m.Box {
			out, is = r[i], true
		}
	}
	return out, is
}

func wantSend(r []api.Rule, m api.Message) (int, api.Errno) {
	_, is := wantRule(r, m)
	switch {
	case !wantName(m.From), !wantName(m.To), !wantLabel(m.Label), !wantLabel(m.Box):
		return 0, api.ErrArg
	case len(m.Text) > 40:
		return 0, api.ErrLong
	case over(m.Box, m.Label):
		return 1, api.OK
	case is:
		return 2, api.OK
	}
	return 0, api.ErrRule
}

// stands tells whether a word stands in a text: at some place all its bytes.
func stands(word, text string) bool {
	for at := 0; at+len(word) <= len(text); at++ {
		all := true
		for i := range len(word) {
			all = all && text[at+i] == word[i]
		}
		if all {
			return true
		}
	}
	return false
}

func wantRelease(r []api.Rule, m api.Message) api.Errno {
	x, is := wantRule(r, m)
	switch {
	case !is:
		return api.ErrRule
	case stands(x.Word, m.Text):
		return api.ErrWord
	}
	return api.OK
}

// wantPlaces tells where the messages of a box stand.
func wantPlaces(l []api.Message, user string, at api.Label) []int {
	var out []int
	for i := range l {
		if l[i].Box == at && l[i].To == user {
			out = append(out, i)
		}
	}
	return out
}

func wantIn(l []api.Message, user string, at api.Label) []api.Message {
	var out []api.Message
	for _, i := range wantPlaces(l, user, at) {
		out = append(out, l[i])
	}
	return out
}

func wantTake(l []api.Message, user string, at api.Label, n int) ([]api.Message, api.Message, api.Errno) {
	places := wantPlaces(l, user, at)
	if n < 1 || n > len(places) {
		return nil, api.Message{}, api.ErrNone
	}
	i := places[n-1]
	return slices.Delete(slices.Clone(l), i, i+1), l[i], api.OK
}

func TestTheTestsOwnTelling(t *testing.T) { // what the other tests hold the program to agrees with the layers below, and their labels are what they are called
	for _, s := range append(noNames(), names()...) {
		if wantName(s) != path.Name(s) {
			t.Errorf("the test's name %q", s)
		}
	}
	all := append(slices.Concat(near(), noLabels()), bottom(), high(), top())
	for why, l := range above() {
		all = append(all, l)
		if l == high() || !label.Over(l, high()) {
			t.Errorf("%s: %v is not over", why, l)
		}
	}
	for why, l := range notAbove() {
		all = append(all, l)
		if label.Over(l, high()) || strings.HasPrefix(why, "below") != label.Over(high(), l) {
			t.Errorf("%s: %v is not so", why, l)
		}
	}
	for _, l := range all {
		if wantLabel(l) != (label.Check(l) == api.OK) {
			t.Errorf("the test's label %v", l)
		}
		for _, x := range all {
			if wantLabel(l) && wantLabel(x) && over(l, x) != label.Over(l, x) {
				t.Errorf("the test's over of %v, %v", l, x)
			}
		}
	}
}

func TestNumbers(t *testing.T) { // the face's
	if mail.Box != 1 || mail.Wait != 2 || api.MaxText != 40 {
		t.Errorf("%d, %d, %d", mail.Box, mail.Wait, api.MaxText)
	}
}

func holdSend(t *testing.T, why string, r []api.Rule, m api.Message, n int, want api.Errno) {
	t.Helper()
	if got, e := mail.Send(r, m); got != n || e != want {
		t.Errorf("P1801: %s: Send of %+v under %v: %d, %v, not %d, %v", why, m, r, got, e, n, want)
	}
}

func TestExample(t *testing.T) { // the chapter's example 1
	holdSend(t, "the example", nil, message(lab(1, 0, 3, 255), bottom(), ""), 0, api.ErrRule)
	holdSend(t, "the example", nil, message(lab(1, 0, 3, 255), label.Bottom(), "hello"), 0, api.ErrRule)
}

func TestSendNames(t *testing.T) { // P1801, P4: of From and of To, ahead of whatever is wrong behind them
	behind := []api.Message{
		message(high(), high(), ""), message(high(), bottom(), ""), message(bottom(), top(), ""), message(high(), high(), everyByte(0)+"x"),
		message(noLabels()[0], high(), ""), message(high(), noLabels()[1], ""), message(high(), lab(1, 5, 2, 24), ""), message(noLabels()[2], noLabels()[3], everyByte(9)+"xy"),
	}
	for _, s := range noNames() {
		for _, m := range behind {
			for _, r := range [][]api.Rule{nil, down("x")} {
				m.From, m.To = s, "bob"
				holdSend(t, "From is no name", r, m, 0, api.ErrArg)
				m.From, m.To = "ann", s
				holdSend(t, "To is no name", r, m, 0, api.ErrArg)
				m.From = s
				holdSend(t, "both are no names", r, m, 0, api.ErrArg)
			}
		}
	}
	for _, from := range names() {
		for _, to := range names() { // one may write to oneself, too; nobody is asked whether there is such a user
			m := message(high(), high(), "x")
			m.From, m.To = from, to
			holdSend(t, "names", nil, m, mail.Box, api.OK)
		}
	}
}

func TestSendLabels(t *testing.T) { // P1801, P4, P6: each error of label.Check, of Label and of Box, ahead of ErrLong, of Box, of Wait and of ErrRule
	long := everyByte(50) + "x"
	for _, l := range noLabels() {
		for _, text := range []string{"", "x", long} {
			for _, r := range [][]api.Rule{nil, {rule(l, bottom(), "w"), rule(high(), l, "w"), rule(l, l, "w")}} {
				holdSend(t, "Label is none", r, message(l, bottom(), text), 0, label.Check(l))
				holdSend(t, "Box is none", r, message(high(), l, text), 0, label.Check(l))
				holdSend(t, "both are none", r, message(l, l, text), 0, label.Check(l))
				holdSend(t, "Label is none", r, message(l, top(), text), 0, label.Check(l))
				holdSend(t, "Box is none", r, message(bottom(), l, text), 0, label.Check(l))
			}
		}
	}
	edges := []api.Label{lab(0, 0, 0, 0), lab(3, 255, 3, 255), bottom(), top()}
	for _, l := range edges {
		holdSend(t, "at the ends of what may be", nil, message(l, l, ""), mail.Box, api.OK)
	}
}

func TestSendLong(t *testing.T) { // P1801, P6: bytes count, whatever they say; ahead of Box, of Wait and of ErrRule
	texts := map[string]api.Errno{
		"": api.OK, "x": api.OK, strings.Repeat("x", 39): api.OK, strings.Repeat("x", 40): api.OK, strings.Repeat("x", 41): api.ErrLong, strings.Repeat("x", 296): api.ErrLong, strings.Repeat("x", 5000): api.ErrLong,
		strings.Repeat("é", 20): api.OK, strings.Repeat("é", 20) + "x": api.ErrLong, strings.Repeat("é", 40): api.ErrLong, strings.Repeat("\xff", 40): api.OK, strings.Repeat("\xff", 41): api.ErrLong,
		strings.Repeat("\x00", 40): api.OK, strings.Repeat("\x00", 41): api.ErrLong, strings.Repeat(" ", 40): api.OK, strings.Repeat(" ", 41): api.ErrLong, strings.Repeat("\n", 41): api.ErrLong, "a\nb\r\n": api.OK, "\xc3": api.OK,
	}
	for i := range 256 {
		texts[everyByte(i)] = api.OK
		texts[everyByte(i)+string([]byte{byte(i)})] = api.ErrLong
	}
	for text, want := range texts {
		for _, x := range []struct {
			why    string
			r      []api.Rule
			m      api.Message
			n      int
			behind api.Errno
		}{
			{"Box", nil, message(high(), high(), text), mail.Box, api.OK},
			{"Box, over it", down("x"), message(bottom(), top(), text), mail.Box, api.OK},
			{"Wait", down("x"), message(high(), bottom(), text), mail.Wait, api.OK},
			{"ErrRule", nil, message(high(), bottom(), text), 0, api.ErrRule},
		} {
			if want == api.OK {
				holdSend(t, "a text for "+x.why, x.r, x.m, x.n, x.behind)
			} else {
				holdSend(t, "a text that is too long for "+x.why, x.r, x.m, 0, want)
			}
		}
	}
}

// rows are rules of many kinds: none, others, such as would let the message wait, many.
func rows(m api.Message) map[string][]api.Rule {
	other := rule(lab(0, 9, 0, 9), lab(0, 0, 1, 1), "x")
	it := rule(m.Label, m.Box, "y")
	return map[string][]api.Rule{
		"none": nil, "an empty row": {}, "another one": {other}, "its own": {it}, "its own behind others": {other, other, it}, "many": slices.Repeat([]api.Rule{it}, 8),
		"the other way about": {rule(m.Box, m.Label, "")}, "both ways": {rule(m.Box, m.Label, ""), it}, "from it to itself": {rule(m.Label, m.Label, "z"), rule(m.Box, m.Box, "z")},
	}
}

func TestSendToBox(t *testing.T) { // P1801: the Label itself, and what is over it; rules do not matter
	ups := above()
	ups["the same"] = high()
	for why, l := range ups {
		for which, r := range rows(message(high(), l, "")) {
			holdSend(t, "a box over it "+why+", rules: "+which, r, message(high(), l, "a y"), mail.Box, api.OK)
		}
		holdSend(t, "from bottom to it "+why, nil, message(bottom(), l, ""), mail.Box, api.OK)
		holdSend(t, "from it to top "+why, nil, message(l, top(), ""), mail.Box, api.OK)
	}
}

func TestSendByRule(t *testing.T) { // P1801: Wait, or ErrRule: Box below, and beside
	downs := notAbove()
	for why, l := range downs {
		m := message(high(), l, "a y")
		for which, r := range rows(m) {
			n, e := 0, api.ErrRule
			if slices.Contains(r, rule(high(), l, "y")) {
				n, e = mail.Wait, api.OK
			}
			holdSend(t, "a box "+why+", rules: "+which, r, m, n, e)
		}
	}
}

func TestSendByRuleOfLabelsThatAreNear(t *testing.T) { // P1801: From and To, both, and all four numbers of each
	for _, l := range near() {
		holdSend(t, "a rule from near by", []api.Rule{rule(l, bottom(), "x")}, message(high(), bottom(), ""), 0, api.ErrRule)
		holdSend(t, "from near by", down("x"), message(l, bottom(), ""), 0, api.ErrRule)
		holdSend(t, "a rule to near by", []api.Rule{rule(top(), l, "x")}, message(top(), high(), ""), 0, api.ErrRule)
		holdSend(t, "to near by", []api.Rule{rule(top(), high(), "x")}, message(top(), l, ""), 0, api.ErrRule)
		holdSend(t, "a rule from it to near by, and one from near by to it", []api.Rule{rule(top(), l, "x"), rule(l, high(), "x")}, message(top(), high(), ""), 0, api.ErrRule)
		holdSend(t, "a rule for the very one, behind near ones", []api.Rule{rule(top(), l, "x"), rule(top(), high(), "x")}, message(top(), high(), ""), mail.Wait, api.OK)
		holdSend(t, "a rule from over it, to below it", []api.Rule{rule(top(), bottom(), "x")}, message(high(), bottom(), ""), 0, api.ErrRule)
	}
}

func TestSendAsksNoWord(t *testing.T) { // P1801: what the Text says is for Release
	for _, word := range []string{"", "plan", "x", "\xff", strings.Repeat("w", 100)} {
		for _, text := range []string{"", "plan", "the plan", "x\xff"} {
			holdSend(t, "a word", down(word), message(high(), bottom(), text), mail.Wait, api.OK)
		}
	}
}

func TestRule(t *testing.T) { // P1801, P4, P9
	r := []api.Rule{
		rule(high(), bottom(), "first"), rule(bottom(), high(), "up"), rule(high(), bottom(), "second"), rule(top(), high(), "third"), rule(high(), high(), "same"),
		rule(top(), high(), "fourth"), rule(top(), bottom(), ""), rule(top(), bottom(), "behind"), rule(high(), bottom(), "first"),
	}
	for _, x := range []struct {
		from, to api.Label
		want     string
		is       bool
	}{
		{high(), bottom(), "first", true}, {bottom(), high(), "up", true}, {top(), high(), "third", true}, {high(), high(), "same", true}, {top(), bottom(), "", true},
		{high(), top(), "", false}, {bottom(), bottom(), "", false}, {top(), top(), "", false}, {bottom(), top(), "", false}, {api.Label{}, api.Label{}, "", false},
	} {
		want := api.Rule{}
		if x.is {
			want = rule(x.from, x.to, x.want)
		}
		for _, text := range []string{"", "first", strings.Repeat("x", 41)} { // nor does it ask whether the message may be sent
			m := message(x.from, x.to, text)
			m.From = "NOBODY"
			if got, is := mail.Rule(r, m); got != want || is != x.is {
				t.Errorf("P1801: Rule from %v to %v: %+v, %v, not %+v, %v", x.from, x.to, got, is, want, x.is)
			}
		}
	}
	for i := range r { // each place where the first one may stand
		m := message(r[i].From, r[i].To, "")
		if got, is := mail.Rule(r[i:], m); got != r[i] || !is {
			t.Errorf("P9: Rule of those from %d on: %+v, %v", i, got, is)
		}
	}
	for _, none := range [][]api.Rule{nil, {}} {
		if got, is := mail.Rule(none, message(api.Label{}, api.Label{}, "")); got != (api.Rule{}) || is {
			t.Errorf("P4: Rule of no rules: %+v, %v", got, is)
		}
	}
	for _, l := range near() {
		for _, near := range [][]api.Rule{{rule(l, bottom(), "x")}, {rule(bottom(), high(), "x")}, {rule(high(), l, "x")}, {rule(l, l, "x")}} {
			if got, is := mail.Rule(near, message(high(), bottom(), "")); got != (api.Rule{}) || is {
				t.Errorf("P1801: Rule by %+v: %+v, %v", near, got, is)
			}
		}
	}
}

func TestReleaseWords(t *testing.T) { // P1801: byte by byte
	for _, x := range []struct {
		word, text string
		want       api.Errno
	}{
		{"plan", "plan b", api.ErrWord}, {"plan", "the plan is", api.ErrWord}, {"plan", "the plan", api.ErrWord}, {"plan", "plan", api.ErrWord}, {"plan", "airplane", api.ErrWord}, {"plan", "planplan", api.ErrWord},
		{"plan", "", api.OK}, {"plan", "p", api.OK}, {"plan", "pla", api.OK}, {"plan", "the pla", api.OK}, {"plan", "lan", api.OK}, {"plan", "p lan", api.OK}, {"plan", "nalp", api.OK}, {"plan", "pl\x00an", api.OK}, {"plan", "plam", api.OK},
		{"plan", "the pla, the plan", api.ErrWord}, {"plan", "pplan", api.ErrWord}, {"plan", "plplan", api.ErrWord}, {"plan", "plaplan", api.ErrWord}, {"plan", "ppllaann", api.OK},
		{"aab", "aaab", api.ErrWord}, {"aab", "aaaaab", api.ErrWord}, {"aab", "aab", api.ErrWord}, {"aab", "abab", api.OK}, {"aab", "aaa", api.OK}, {"aab", "aa", api.OK}, {"aab", "aaaaaa b", api.OK},
		{"abab", "ababab", api.ErrWord}, {"abac", "ababac", api.ErrWord}, {"aabaaa", "aabaabaaa", api.ErrWord}, {"abcabd", "abcabcabd", api.ErrWord}, {"aaaa", "aaabaaabaaa", api.OK},
		{"", "", api.ErrWord}, {"", "x", api.ErrWord}, {"", strings.Repeat("x", 40), api.ErrWord},
		{"x", "", api.OK}, {"x", "x", api.ErrWord}, {"x", "axb", api.ErrWord}, {"x", "X", api.OK},
		{"plan", "PLAN", api.OK}, {"plan", "Plan", api.OK}, {"plan", "plaN", api.OK}, {"PLAN", "plan", api.OK}, {"PLAN", "PLAN", api.ErrWord}, {"k", "\u212a", api.OK}, {"s", "ſ", api.OK},
		{"\xc3", "é", api.ErrWord}, {"\xa9", "é", api.ErrWord}, {"é", "é", api.ErrWord}, {"é", "\xc3", api.OK}, {"é", "e\u0301", api.OK}, {"\xff", "a\xffb", api.ErrWord}, {"\xff", "\xfe", api.OK}, {"\xff", "\ufffd", api.OK}, {"\ufffd", "\xff", api.OK}, {"\x80", "\xff\x80", api.ErrWord},
		{"\xff\xfe", "\xfe\xff", api.OK}, {"\x00", "", api.OK}, {"\x00", "\x00", api.ErrWord}, {"\x00", "0", api.OK}, {"a\x00b", "a\x00b", api.ErrWord}, {"a\x00b", "a\x00c", api.OK}, {"a", "\xe1", api.OK}, {"\n", "a\nb", api.ErrWord},
		{"abcdefghijkl", "abcdefghijkl", api.ErrWord}, {"abcdefghijkl", "abcdefghijk", api.OK}, {"abcdefghijkl", strings.Repeat("x", 28) + "abcdefghijkl", api.ErrWord}, {"abcdefghijkl", strings.Repeat("x", 29) + "abcdefghijk", api.OK},
		{strings.Repeat("a", 41), strings.Repeat("a", 40), api.OK}, {strings.Repeat("a", 41), strings.Repeat("a", 41), api.ErrWord}, {"b", strings.Repeat("a", 50) + "b", api.ErrWord}, // how long the Text is is for Send to ask
		{"*", "plan", api.OK}, {".", "plan", api.OK}, {"pl.n", "plan", api.OK}, {"^plan", "plan", api.OK}, {"plan$", "plan", api.OK},
	} {
		m := message(high(), bottom(), x.text)
		if e := mail.Release(down(x.word), m); e != x.want || e != wantRelease(down(x.word), m) {
			t.Errorf("P1801: Release of %q under %q: %v, not %v", x.text, x.word, e, x.want)
		}
	}
}

func TestReleaseAtEachPlace(t *testing.T) { // P1801: a word at each place of a text of each length, and one byte short of it
	for n := range 41 {
		for at := 0; at+3 <= n; at++ {
			text := strings.Repeat("x", at) + "ban" + strings.Repeat("x", n-at-3)
			if e := mail.Release(down("ban"), message(high(), bottom(), text)); e != api.ErrWord {
				t.Errorf("P1801: Release of %q: %v", text, e)
			}
			for i, c := range "ban" {
				b := []byte(text)
				b[at+i] = byte(c) ^ 0x80
				if e := mail.Release(down("ban"), message(high(), bottom(), string(b))); e != api.OK {
					t.Errorf("P1801: Release of %q: %v", b, e)
				}
			}
		}
	}
}

func TestReleaseEveryByte(t *testing.T) { // P1801: each byte stands where it stands, and for no other one
	for c := range 256 {
		for d := range 256 {
			word, text := string([]byte{byte(c)}), string([]byte{byte(d)})
			want := api.OK
			if c == d {
				want = api.ErrWord
			}
			if e := mail.Release(down(word), message(high(), bottom(), text)); e != want {
				t.Errorf("P1801: Release of %q under %q: %v", text, word, e)
			}
		}
	}
}

func TestReleaseByTheFirstRule(t *testing.T) { // P1801, P9: its Word alone counts, and nobody else's
	r := []api.Rule{rule(top(), bottom(), "c"), rule(bottom(), high(), "d"), rule(high(), bottom(), "a"), rule(high(), bottom(), "b"), rule(high(), bottom(), ""), rule(top(), bottom(), "")}
	for _, x := range []struct {
		from, to api.Label
		text     string
		want     api.Errno
	}{
		{high(), bottom(), "bcd", api.OK}, {high(), bottom(), "bca", api.ErrWord}, {high(), bottom(), "", api.OK}, {high(), bottom(), "a", api.ErrWord}, {high(), bottom(), "b", api.OK},
		{top(), bottom(), "abd", api.OK}, {top(), bottom(), "c", api.ErrWord}, {bottom(), high(), "abc", api.OK}, {bottom(), high(), "d", api.ErrWord}, // a rule that leads up is one, too
		{top(), high(), "", api.ErrRule}, {top(), high(), "a", api.ErrRule}, {top(), high(), "abcd", api.ErrRule}, {high(), high(), "", api.ErrRule}, {bottom(), bottom(), "d", api.ErrRule}, {bottom(), top(), "c", api.ErrRule}, {api.Label{}, api.Label{}, "", api.ErrRule},
	} {
		if e := mail.Release(r, message(x.from, x.to, x.text)); e != x.want {
			t.Errorf("P1801: Release from %v to %v of %q: %v, not %v", x.from, x.to, x.text, e, x.want)
		}
		for _, none := range [][]api.Rule{nil, {}, {rule(x.to, x.from, "nothing"), rule(x.from, lab(2, 2, 2, 2), ""), rule(lab(2, 2, 2, 2), x.to, "")}} {
			if e := mail.Release(none, message(x.from, x.to, x.text)); e != api.ErrRule && x.from != x.to {
				t.Errorf("P1801: Release by no rule: %v", e)
			}
		}
	}
}

func TestReleaseByRuleOfLabelsThatAreNear(t *testing.T) { // P1801
	for _, l := range near() {
		for _, text := range []string{"", "x", "word"} {
			for _, r := range [][]api.Rule{{rule(l, bottom(), "word")}, {rule(high(), l, "word")}, {rule(bottom(), high(), "word")}, {rule(l, bottom(), ""), rule(high(), l, "")}} {
				if e := mail.Release(r, message(high(), bottom(), text)); e != api.ErrRule {
					t.Errorf("P1801: Release of %q by %+v: %v", text, r, e)
				}
			}
		}
	}
}

func TestReleaseAsksNothingElse(t *testing.T) { // P1801: a row of its own, whoever wrote it, however long it is
	m := message(high(), bottom(), strings.Repeat("x", 60))
	m.From, m.To = "", "NOBODY/"
	if e := mail.Release(down("word"), m); e != api.OK {
		t.Errorf("P1801: Release: %v", e)
	}
	m.Text += "word"
	if e := mail.Release(down("word"), m); e != api.ErrWord {
		t.Errorf("P1801: Release: %v", e)
	}
}

// texts tells what stands in some messages.
func texts(l []api.Message) string {
	var out []string
	for _, m := range l {
		out = append(out, m.Text)
	}
	return strings.Join(out, " ")
}

// post is a row of messages of many boxes, by their places from 1 on.
func post() []api.Message {
	return []api.Message{
		to("ann", high(), "1"), to("bob", high(), "2"), to("ann", bottom(), "3"), to("anna", high(), "4"), to("ann", high(), "5"), to("an", high(), "6"),
		to("bob", bottom(), "7"), to("ann", high(), "8"), to("ann", lab(1, 7, 2, 24), "9"), to("ann", high(), "10"), to("eve", lab(0, 1, 3, 129), "11"), to("", high(), "12"),
	}
}

func TestIn(t *testing.T) { // P1802
	for _, x := range []struct {
		user string
		at   api.Label
		want string
	}{
		{"ann", high(), "1 5 8 10"}, {"ann", bottom(), "3"}, {"ann", lab(1, 7, 2, 24), "9"}, {"bob", high(), "2"}, {"bob", bottom(), "7"}, {"an", high(), "6"}, {"anna", high(), "4"}, {"eve", lab(0, 1, 3, 129), "11"}, {"", high(), "12"},
		{"ann", top(), ""}, {"ann", lab(0, 1, 3, 129), ""}, {"ann", api.Label{}, ""}, {"eve", high(), ""}, {"a", high(), ""}, {"annab", high(), ""}, {"Ann", high(), ""}, {"*", high(), ""}, {"an", bottom(), ""}, {"", bottom(), ""}, {"zoe", high(), ""},
	} {
		got := mail.In(post(), x.user, x.at)
		if texts(got) != x.want || !slices.Equal(got, wantIn(post(), x.user, x.at)) {
			t.Errorf("P1802: In of %q at %v: %q, not %q", x.user, x.at, texts(got), x.want)
		}
	}
	all := []api.Message{to("ann", high(), "b"), to("ann", high(), "a"), to("ann", high(), "c"), to("ann", high(), "a")} // as they came, whatever they say
	if got := mail.In(all, "ann", high()); !slices.Equal(got, all) {
		t.Errorf("P1802: In, of a row that is all in it: %q", texts(got))
	}
	for _, none := range [][]api.Message{nil, {}} {
		if got := mail.In(none, "", api.Label{}); len(got) != 0 {
			t.Errorf("P1802: In of no messages: %+v", got)
		}
	}
}

func TestInByBox(t *testing.T) { // P1802: the Box counts, not the Label; To, not From; and a message is told with all that it has
	one := api.Message{From: "ann", Label: high(), To: "bob", Box: top(), Text: "x"}
	other := api.Message{From: "bob", Label: top(), To: "ann", Box: bottom(), Text: "\xff"}
	l := []api.Message{one, other}
	for _, x := range []struct {
		user string
		at   api.Label
		want []api.Message
	}{{"bob", top(), l[:1]}, {"ann", bottom(), l[1:]}, {"bob", high(), nil}, {"ann", top(), nil}, {"ann", high(), nil}, {"bob", bottom(), nil}} {
		if got := mail.In(l, x.user, x.at); !slices.Equal(got, x.want) {
			t.Errorf("P1802: In of %s at %v: %+v", x.user, x.at, got)
		}
		rest, m, e := mail.Take(l, x.user, x.at, 1)
		wantRest, wantM, want := wantTake(l, x.user, x.at, 1)
		if !slices.Equal(rest, wantRest) || m != wantM || e != want {
			t.Errorf("P1802: Take of %s at %v: %+v, %+v, %v", x.user, x.at, rest, m, e)
		}
	}
	for _, at := range near() { // each number of the label
		if got := mail.In([]api.Message{to("ann", high(), "x"), to("ann", at, "y")}, "ann", high()); texts(got) != "x" {
			t.Errorf("P1802: In beside %v: %q", at, texts(got))
		}
		if _, got, e := mail.Take([]api.Message{to("ann", at, "y"), to("ann", high(), "x")}, "ann", high(), 1); got.Text != "x" || e != api.OK {
			t.Errorf("P1802: Take beside %v: %q, %v", at, got.Text, e)
		}
	}
}

func holdTake(t *testing.T, l []api.Message, user string, at api.Label, n int) api.Errno {
	t.Helper()
	rest, m, e := mail.Take(l, user, at, n)
	wantRest, wantM, want := wantTake(l, user, at, n)
	if !slices.Equal(rest, wantRest) || m != wantM || e != want {
		t.Errorf("P1802: Take %d of %q at %v: %q, %+v, %v, not %q, %+v, %v", n, user, at, texts(rest), m, e, texts(wantRest), wantM, want)
	}
	return e
}

func TestTake(t *testing.T) { // P1802, P4, P9
	for _, x := range []struct {
		user      string
		at        api.Label
		n         int
		rest, got string
	}{
		{"ann", high(), 1, "2 3 4 5 6 7 8 9 10 11 12", "1"}, {"ann", high(), 2, "1 2 3 4 6 7 8 9 10 11 12", "5"}, {"ann", high(), 3, "1 2 3 4 5 6 7 9 10 11 12", "8"}, {"ann", high(), 4, "1 2 3 4 5 6 7 8 9 11 12", "10"},
		{"bob", bottom(), 1, "1 2 3 4 5 6 8 9 10 11 12", "7"}, {"", high(), 1, "1 2 3 4 5 6 7 8 9 10 11", "12"}, {"an", high(), 1, "1 2 3 4 5 7 8 9 10 11 12", "6"}, {"anna", high(), 1, "1 2 3 5 6 7 8 9 10 11 12", "4"},
	} {
		rest, got, e := mail.Take(post(), x.user, x.at, x.n)
		if texts(rest) != x.rest || got.Text != x.got || e != api.OK {
			t.Errorf("P1802: Take %d of %q at %v: %q, %q, %v", x.n, x.user, x.at, texts(rest), got.Text, e)
		}
	}
	counts := []int{0, -1, -2, 1, 2, 3, 4, 5, 6, 12, 13, 1 << 32, 1<<32 + 1, math.MaxInt, math.MaxInt - 1, math.MinInt, math.MinInt + 1}
	for _, n := range counts {
		for _, user := range []string{"ann", "bob", "an", "anna", "eve", "", "zoe", "a"} {
			for _, at := range []api.Label{high(), bottom(), top(), lab(1, 7, 2, 24), lab(0, 1, 3, 129)} {
				holdTake(t, post(), user, at, n)
			}
		}
		for _, none := range [][]api.Message{nil, {}} {
			if rest, m, e := mail.Take(none, "", api.Label{}, n); len(rest) != 0 || m != (api.Message{}) || e != api.ErrNone {
				t.Errorf("P1802: Take %d of no messages: %v, %+v, %v", n, rest, m, e)
			}
		}
	}
}

func TestTakeAtEdges(t *testing.T) { // P1802: of boxes of each size, the last one, and one more
	for size := range 30 {
		var l []api.Message
		for i := range size {
			l = append(l, to("bob", high(), fmt.Sprint("b", i)), to("ann", high(), fmt.Sprint("a", i)))
		}
		for n := -2; n < size+3; n++ {
			want := api.ErrNone
			if n >= 1 && n <= size {
				want = api.OK
			}
			if e := holdTake(t, l, "ann", high(), n); e != want {
				t.Errorf("P1802: Take %d of %d: %v", n, size, e)
			}
		}
	}
	l := []api.Message{to("ann", high(), "x")}
	if rest, m, e := mail.Take(l, "ann", high(), 1); len(rest) != 0 || m != l[0] || e != api.OK {
		t.Errorf("P1802: Take of the only one: %+v, %+v, %v", rest, m, e)
	}
}

func TestTakeOfAlike(t *testing.T) { // P1802: the n-th one, though it is like the others: all others stay, in their order
	a, b := to("ann", high(), "a"), to("ann", high(), "b")
	other := to("bob", high(), "a")
	for _, x := range []struct {
		l    []api.Message
		n    int
		rest []api.Message
	}{
		{[]api.Message{a, b, a}, 1, []api.Message{b, a}}, {[]api.Message{a, b, a}, 3, []api.Message{a, b}}, {[]api.Message{a, a, b}, 2, []api.Message{a, b}}, {[]api.Message{a, a, a}, 2, []api.Message{a, a}},
		{[]api.Message{a, other, a, b, a}, 3, []api.Message{a, other, a, a}}, {[]api.Message{a, other, a, b, a}, 4, []api.Message{a, other, a, b}}, {[]api.Message{a, other, a, b, a}, 2, []api.Message{a, other, b, a}}, {[]api.Message{other, a, other}, 1, []api.Message{other, other}},
	} {
		rest, m, e := mail.Take(x.l, "ann", high(), x.n)
		if !slices.Equal(rest, x.rest) || m != wantIn(x.l, "ann", high())[x.n-1] || e != api.OK {
			t.Errorf("P1802: Take %d: %+v, %+v, %v", x.n, rest, m, e)
		}
	}
	if got := mail.In([]api.Message{a, other, a, a}, "ann", high()); len(got) != 3 {
		t.Errorf("P1802: In of those that are alike: %d", len(got))
	}
}

func TestTakeTillNoneIsLeft(t *testing.T) { // P1802, P1803: whatever is taken first, the others stay
	for _, pick := range []func(left int) int{func(int) int { return 1 }, func(left int) int { return left }, func(left int) int { return (left + 1) / 2 }} {
		l := post()
		var others []api.Message
		for _, m := range l {
			if m.To != "ann" || m.Box != high() {
				others = append(others, m)
			}
		}
		for left := 4; left > 0; left-- {
			box := mail.In(l, "ann", high())
			rest, m, e := mail.Take(l, "ann", high(), pick(left))
			if len(box) != left || m != box[pick(left)-1] || e != api.OK {
				t.Fatalf("P1802: of %d: %+v, %v", left, m, e)
			}
			l = rest
		}
		if !slices.Equal(l, others) || len(mail.In(l, "ann", high())) != 0 {
			t.Errorf("P1803: of others' boxes there is left: %+v", l)
		}
		if _, _, e := mail.Take(l, "ann", high(), 1); e != api.ErrNone {
			t.Errorf("P1802: Take of an empty box: %v", e)
		}
	}
}

// mark is what stands in spare room that nobody may write to.
func mark() api.Message { return to("ann", high(), "a mark") }

// roomy is a row with marks in its spare room, which would be in ann's box.
func roomy(l []api.Message) []api.Message {
	return append(slices.Clone(l), slices.Repeat([]api.Message{mark()}, 20)...)[:len(l)]
}

func holdRoomy(t *testing.T, why string, l, was []api.Message) {
	t.Helper()
	whole := l[:len(was)+20]
	if !slices.Equal(whole[:len(was)], was) || !slices.Equal(whole[len(was):], slices.Repeat([]api.Message{mark()}, 20)) {
		t.Errorf("P2: %s: what was handed in is changed: %+v", why, whole)
	}
}

// scrawl writes over a list, and behind it.
func scrawl(l []api.Message) {
	for i := range l[:cap(l)] {
		l[:cap(l)][i] = to("scrawl", top(), "scrawl")
	}
}

func TestMemory(t *testing.T) { // P2, P3
	rows := [][]api.Message{nil, post()[:1], post(), {to("ann", high(), "a"), to("ann", high(), "b"), to("ann", high(), "c")}, {to("bob", high(), "a"), to("ann", high(), "b")}}
	for _, was := range rows {
		for n := -1; n < 6; n++ {
			l := roomy(was)
			wantBox := wantIn(was, "ann", high())
			wantRest, wantM, want := wantTake(was, "ann", high(), n)
			hold := func(why string, box, rest []api.Message) {
				t.Helper()
				if !slices.Equal(box, wantBox) || !slices.Equal(rest, wantRest) {
					t.Errorf("P2: Take %d, %s: %+v, %+v", n, why, box, rest)
				}
			}
			box, again := mail.In(l, "ann", high()), mail.In(l, "ann", high())
			rest, m, e := mail.Take(l, "ann", high(), n)
			restAgain, mAgain, eAgain := mail.Take(l, "ann", high(), n)
			if m != wantM || e != want || mAgain != m || eAgain != e {
				t.Errorf("P3: Take %d: %+v, %v, and %+v, %v", n, m, e, mAgain, eAgain)
			}
			hold("asked", box, rest)
			hold("asked again", again, restAgain)
			holdRoomy(t, "In and Take", l, was)
			scrawl(box)
			scrawl(rest)
			hold("an answer is changed by a change of another one", again, restAgain)
			holdRoomy(t, "an answer is changed", l, was)
			again, restAgain = append(again, mark()), append(restAgain, mark())
			holdRoomy(t, "appended to an answer", l, was)
			again, restAgain = again[:len(wantBox)], restAgain[:len(wantRest)]
			_ = append(l, to("later", top(), "later"))
			scrawl(l)
			hold("what was handed in is changed", again, restAgain)
		}
	}
}

func TestRulesStayAsTheyAre(t *testing.T) { // P2, P3
	was := []api.Rule{rule(top(), bottom(), "x"), rule(high(), bottom(), "y"), rule(high(), bottom(), "z")}
	spare := rule(high(), top(), "spare")
	l := append(slices.Clone(was), slices.Repeat([]api.Rule{spare}, 9)...)[:len(was)]
	for range 3 {
		for _, m := range []api.Message{message(high(), bottom(), "y"), message(high(), bottom(), "q"), message(top(), high(), ""), message(high(), top(), ""), message(high(), high(), everyByte(0)+"x")} {
			n, e := mail.Send(l, m)
			r, is := mail.Rule(l, m)
			wantN, wantE := wantSend(was, m)
			want, wantIs := wantRule(was, m)
			if n != wantN || e != wantE || r != want || is != wantIs || mail.Release(l, m) != wantRelease(was, m) { // spare room does not count
				t.Errorf("P3: of %+v: %d, %v, %+v, %v, %v", m, n, e, r, is, mail.Release(l, m))
			}
			if !slices.Equal(l[:12], append(slices.Clone(was), slices.Repeat([]api.Rule{spare}, 9)...)) {
				t.Fatalf("P2: rules that were handed in are changed: %+v", l[:12])
			}
		}
	}
}

func pick[T any](r *rand.Rand, l []T) T { return l[r.IntN(len(l))] }

// drawnMessage is one whose parts are now and then such as may not be.
func drawnMessage(r *rand.Rand, labels []api.Label) api.Message {
	m := api.Message{From: pick(r, names()), Label: pick(r, labels), To: pick(r, names()), Box: pick(r, labels)}
	for range r.IntN(12) {
		m.Text += pick(r, []string{"a", "b", "A", "\xff", "ab"})
	}
	if r.IntN(8) == 0 {
		m.From = pick(r, noNames())
	}
	if r.IntN(8) == 0 {
		m.To = pick(r, noNames())
	}
	if r.IntN(8) == 0 {
		m.Label = pick(r, noLabels())
	}
	if r.IntN(8) == 0 {
		m.Box = pick(r, noLabels())
	}
	if r.IntN(6) == 0 {
		m.Text = (m.Text + everyByte(r.IntN(256)) + "ab")[:39+r.IntN(3)]
	}
	return m
}

func drawnLabels(r *rand.Rand) []api.Label {
	var out []api.Label
	for range 4 {
		l := lab(r.IntN(4), r.IntN(256), r.IntN(4), r.IntN(256))
		out = append(out, l, lab(l.Sec, l.SecCats, r.IntN(4), l.IntCats), lab(l.Sec, l.SecCats|1<<r.IntN(8), l.Int, l.IntCats))
	}
	return append(out, high(), bottom())
}

func TestManySends(t *testing.T) { // P1801, P6: held to the words of the document
	r := rand.New(rand.NewPCG(18, 1801))
	sends, releases := map[string]int{}, map[api.Errno]int{}
	for range 2000 {
		labels := drawnLabels(r)[r.IntN(10):]
		var rules []api.Rule
		for range r.IntN(30) {
			rules = append(rules, rule(pick(r, labels), pick(r, labels), strings.Repeat(pick(r, []string{"a", "ab", "\xff", "ba", ""}), 1+r.IntN(2))))
		}
		for range 20 {
			m := drawnMessage(r, labels)
			n, want := wantSend(rules, m)
			holdSend(t, "drawn", rules, m, n, want)
			sends[fmt.Sprint(n, want)]++
			wantR, wantIs := wantRule(rules, m)
			if got, is := mail.Rule(rules, m); got != wantR || is != wantIs {
				t.Errorf("P1801: Rule of %+v under %v: %+v, %v", m, rules, got, is)
			}
			e := mail.Release(rules, m)
			if e != wantRelease(rules, m) {
				t.Errorf("P1801: Release of %+v under %v: %v", m, rules, e)
			}
			releases[e]++
		}
	}
	if len(sends) != 5 || len(releases) != 3 || slices.ContainsFunc([]int{sends["1 ok"], sends["2 ok"], sends["0 arg"], sends["0 long"], sends["0 rule"], releases[api.OK], releases[api.ErrWord], releases[api.ErrRule]}, func(n int) bool { return n < 500 }) {
		t.Errorf("the draws are too thin: %v, %v", sends, releases)
	}
}

func TestManyBoxes(t *testing.T) { // P1802, P1803: what is put into, told of, and taken from one box changes nothing of another one's
	r := rand.New(rand.NewPCG(18, 1803))
	taken, refused, sameUser := 0, 0, 0
	for range 150 {
		users, labels := []string{"a", "an", "ann", "anna", "bob"}[r.IntN(3):], drawnLabels(r)[r.IntN(9):]
		var l []api.Message
		for range 60 {
			user, at := pick(r, users), pick(r, labels)
			before := l
			if len(l) < 3 || r.IntN(5) < 3 {
				l = append(slices.Clone(l), api.Message{From: pick(r, users), Label: pick(r, labels), To: user, Box: at, Text: pick(r, []string{"x", "y", "z"})})
			} else {
				n := r.IntN(5) - 1
				if e := holdTake(t, l, user, at, n); e != api.OK {
					refused++
					continue
				}
				l, _, _ = mail.Take(l, user, at, n)
				taken++
			}
			for _, u := range users {
				for _, x := range labels {
					if u == user && x == at {
						continue
					}
					if got, was := mail.In(l, u, x), mail.In(before, u, x); !slices.Equal(got, was) {
						t.Fatalf("P1803: the box of %s at %v changes that of %s at %v: %+v, not %+v", user, at, u, x, got, was)
					} else if u == user && len(got) > 0 {
						sameUser++
					}
				}
			}
			if got, want := mail.In(l, user, at), wantIn(l, user, at); !slices.Equal(got, want) {
				t.Fatalf("P1802: In of %s at %v: %+v, not %+v", user, at, got, want)
			}
		}
	}
	if taken < 200 || refused < 200 || sameUser < 5000 {
		t.Errorf("the draws are too thin: %d, %d, %d", taken, refused, sameUser)
	}
}

func TestBoxesOfOneUserPartMessages(t *testing.T) { // P1803: each message is in one box, and in no other one
	r := rand.New(rand.NewPCG(18, 3))
	for range 100 {
		labels := drawnLabels(r)
		slices.SortFunc(labels, func(a, b api.Label) int {
			return slices.Compare([]int{a.Sec, a.SecCats, a.Int, a.IntCats}, []int{b.Sec, b.SecCats, b.Int, b.IntCats})
		})
		labels = slices.Compact(labels)
		var l []api.Message
		for i := range 40 {
			l = append(l, to("ann", pick(r, labels), fmt.Sprint(i)))
		}
		seen := map[string]int{}
		for _, at := range labels {
			for _, m := range mail.In(l, "ann", at) {
				seen[m.Text]++
				if m.Box != at {
					t.Errorf("P1803: in the box at %v there is %+v", at, m)
				}
			}
		}
		for i := range 40 {
			if seen[fmt.Sprint(i)] != 1 {
				t.Errorf("P1803: message %d is in %d boxes", i, seen[fmt.Sprint(i)])
			}
		}
	}
}

func TestWhatMayNotBe(t *testing.T) { // P1, P2, P8: no panic, an end, and nothing changed that was handed in
	labels := append(noLabels(), high(), api.Label{})
	users := append(noNames()[:25], strings.Repeat("long", 500))
	for i, at := range labels {
		for k, user := range users {
			was := []api.Message{to(user, at, strings.Repeat("t", 10*k)), to("ann", high(), "x"), {}, to(user, at, "\xff"), message(at, at, user)}
			l := roomy(was)
			rules := []api.Rule{rule(at, high(), user), {}, rule(at, at, strings.Repeat(user, i))}
			wasRules := slices.Clone(rules)
			for _, n := range []int{math.MinInt, -1, 0, 1, 2, 3, math.MaxInt} {
				mail.Take(l, user, at, n)
			}
			mail.In(l, user, at)
			for _, m := range was {
				mail.Send(rules, m)
				mail.Rule(rules, m)
				mail.Release(rules, m)
			}
			holdRoomy(t, "what may not be", l, was)
			if !slices.Equal(rules, wasRules) {
				t.Errorf("P2: rules that were handed in are changed: %+v", rules)
			}
		}
	}
}
