package node_test

import (
	"bytes"
	"encoding/binary"
	"fmt"
	"math"
	"math/rand/v2"
	"reflect"
	"slices"
	"strings"
	"testing"

	"donjon/api"
	"donjon/node"
)

func lab(sec, secCats, integ, intCats int) api.Label {
	return api.Label{Sec: sec, SecCats: secCats, Int: integ, IntCats: intCats}
}

func bottom() api.Label { return lab(0, 0, 3, 255) }

// seg is a segment that may be, in which no two numbers side by side are the same.
func seg() api.Node {
	return api.Node{
		Path:  "/home/ann",
		Label: lab(1, 2, 3, 4),
		By:    lab(2, 5, 1, 6),
		Acl:   []api.Grant{{User: "*", Modes: 1}, {User: "ann", Modes: 7}, {User: "bob", Modes: 4}},
		Rings: api.Rings{R1: 1, R2: 3, R3: 5, Gates: 2},
		Words: []int64{9, -2, math.MaxInt64, math.MinInt64},
	}
}

// dir is a directory that may be.
func dir() api.Node {
	return api.Node{Path: "/home", Dir: true, Label: lab(1, 2, 3, 4), By: lab(2, 5, 1, 6), Acl: []api.Grant{{User: "ann", Modes: 3}}}
}

// grants are so many, each with a text of its own.
func grants(n int) []api.Grant {
	var out []api.Grant
	for i := range n {
		out = append(out, api.Grant{User: fmt.Sprintf("u%03d", i), Modes: i%7 + 1})
	}
	return out
}

// words are so many, no two the same.
func words(n int) []int64 {
	var out []int64
	for i := range n {
		out = append(out, int64(i)*0x0123456789abcdef-1<<62)
	}
	return out
}

// edgeWords are those at the ends of eight bytes, and with one byte alone.
func edgeWords() []int64 {
	out := []int64{0, 1, -1, math.MaxInt64, math.MinInt64, math.MaxInt64 - 1, math.MinInt64 + 1, 0x0102030405060708, -0x0102030405060708, math.MaxInt32, math.MinInt32, math.MaxUint32}
	for k := range 8 {
		out = append(out, 0xff<<(8*k), 0x80<<(8*k), 1<<(8*k), 1<<(8*k)-1)
	}
	return out
}

// texts are empty, short, as long as a byte can say, and no text at all.
func texts() []string {
	return []string{"", "a", "\x00", "\xff", "/", "/a/b", "é", "\xc3", "a\nb c", "\x00\x01\x02", strings.Repeat("x", 127), strings.Repeat("y", 128), strings.Repeat("z", 254), strings.Repeat("\xff", 255)}
}

// thing is one that a field may be set to, and which error it has.
type thing[T any] struct {
	x T
	e api.Errno
}

func paths() []thing[string] {
	return []thing[string]{
		{"/", 0}, {"/a", 0}, {"/a/b/c/d/e/f", 0}, {strings.Repeat("/abcdefghij01", 6), 0},
		{"", api.ErrArg}, {"a", api.ErrArg}, {"//", api.ErrArg}, {"/a/", api.ErrArg}, {"/A", api.ErrArg}, {"/a/b/c/d/e/f/g", api.ErrArg},
		{strings.Repeat("/", 79), api.ErrLong}, {strings.Repeat("/abcdefghij01", 6) + "/", api.ErrLong}, {strings.Repeat("/a", 200), api.ErrLong},
	}
}

func labels() []thing[api.Label] {
	return []thing[api.Label]{
		{api.Label{}, 0}, {bottom(), 0}, {lab(3, 255, 0, 0), 0},
		{lab(4, 0, 0, 0), api.ErrArg}, {lab(0, 256, 0, 0), api.ErrArg}, {lab(0, 0, -1, 0), api.ErrArg}, {lab(0, 0, 0, math.MaxInt), api.ErrArg},
	}
}

func lists() []thing[[]api.Grant] {
	return []thing[[]api.Grant]{
		{nil, 0}, {[]api.Grant{}, 0}, {grants(4), 0}, {seg().Acl, 0},
		{grants(5), api.ErrMany}, {make([]api.Grant, 5), api.ErrMany}, {make([]api.Grant, 256), api.ErrMany},
		{make([]api.Grant, 4), api.ErrArg}, {[]api.Grant{{User: "a", Modes: 8}}, api.ErrArg}, {[]api.Grant{{User: "a", Modes: 1}, {User: "a", Modes: 1}}, api.ErrArg}, {[]api.Grant{{User: "a", Modes: 1}, {User: "*", Modes: 1}}, api.ErrArg},
	}
}

func brackets() []thing[api.Rings] {
	return []thing[api.Rings]{
		{api.Rings{}, 0}, {api.Rings{R1: 1, R2: 3, R3: 5, Gates: 2}, 0}, {api.Rings{R1: 7, R2: 7, R3: 7, Gates: 16}, 0}, {api.Rings{R3: 1}, 0}, {api.Rings{R2: 1, R3: 1}, 0}, {api.Rings{Gates: 1}, 0},
		{api.Rings{R1: 1}, api.ErrArg}, {api.Rings{R2: 1}, api.ErrArg}, {api.Rings{R3: 8}, api.ErrArg}, {api.Rings{Gates: 17}, api.ErrArg}, {api.Rings{R1: -1}, api.ErrArg}, {api.Rings{Gates: -1}, api.ErrArg},
	}
}

// first is the first error of some in order.
func first(l ...api.Errno) api.Errno {
	for _, e := range l {
		if e != api.OK {
			return e
		}
	}
	return api.OK
}

func when(is bool, e api.Errno) api.Errno {
	if is {
		return e
	}
	return api.OK
}

func TestCheckOfEach(t *testing.T) { // P1001
	for _, n := range []api.Node{seg(), dir(), {Path: "/", Dir: true}, {Path: "/", Dir: true, Label: bottom(), By: bottom(), Acl: grants(4)}, {Path: "/a"}} {
		if e := node.Check(n); e != api.OK {
			t.Errorf("P1001: Check of %#v: %v", n, e)
		}
	}
	for _, n := range []api.Node{seg(), dir()} {
		hold := func(n api.Node, want api.Errno) {
			t.Helper()
			if e := node.Check(n); e != want {
				t.Errorf("P1001: Check of %#v: %v, not %v", n, e, want)
			}
		}
		for _, x := range paths() {
			m := n
			m.Path = x.x
			hold(m, first(x.e, when(x.x == "/" && !m.Dir, api.ErrKind)))
		}
		for _, x := range labels() {
			m := n
			m.Label = x.x
			hold(m, x.e)
			m = n
			m.By = x.x
			hold(m, x.e)
		}
		for _, x := range lists() {
			m := n
			m.Acl = x.x
			hold(m, x.e)
		}
		for _, x := range brackets() {
			m := n
			m.Rings = x.x
			if m.Dir {
				hold(m, when(x.x != api.Rings{}, api.ErrBad))
			} else {
				hold(m, x.e)
			}
		}
	}
}

func TestCheckWords(t *testing.T) { // P1001, P2
	for n := range 300 {
		s, d := seg(), dir()
		s.Words, d.Words = words(n), words(n)
		if e := node.Check(s); e != when(n > 16, api.ErrMany) {
			t.Errorf("P1001: Check of a segment of %d words: %v", n, e)
		}
		if e := node.Check(d); e != when(n > 0, api.ErrBad) {
			t.Errorf("P1001: Check of a directory of %d words: %v", n, e)
		}
	}
	for _, n := range []api.Node{seg(), dir()} {
		for _, none := range [][]int64{nil, {}, make([]int64, 0, 20)} {
			n.Words = none
			if e := node.Check(n); e != api.OK {
				t.Errorf("P2: Check of no words: %v", e)
			}
		}
	}
	for _, w := range edgeWords() { // whatever they are
		n := seg()
		n.Words = slices.Repeat([]int64{w}, 16)
		if e := node.Check(n); e != api.OK {
			t.Errorf("P1001: Check of 16 words %d: %v", w, e)
		}
	}
	d := dir()
	d.Words = []int64{0}
	if e := node.Check(d); e != api.ErrBad {
		t.Errorf("P1001: Check of a directory of a word 0: %v", e)
	}
}

func TestCheckOrder(t *testing.T) { // P1001, P6: whatever is wrong together with whatever else
	counts := []int{0, 1, 16, 17}
	for _, p := range paths() {
		for _, l := range labels() {
			for _, by := range labels() {
				for _, a := range lists() {
					for _, r := range brackets() {
						for _, k := range counts {
							n := api.Node{Path: p.x, Label: l.x, By: by.x, Acl: a.x, Rings: r.x, Words: words(k)}
							ahead := first(p.e, l.e, by.e, a.e)
							if e, want := node.Check(n), first(ahead, when(p.x == "/", api.ErrKind), r.e, when(k == 17, api.ErrMany)); e != want {
								t.Fatalf("P6: Check of %#v: %v, not %v", n, e, want)
							}
							n.Dir = true
							if e, want := node.Check(n), first(ahead, when(r.x != api.Rings{} || k > 0, api.ErrBad)); e != want {
								t.Fatalf("P6: Check of %#v: %v, not %v", n, e, want)
							}
						}
					}
				}
			}
		}
	}
}

func TestCheckOrderByHand(t *testing.T) { // P6: where the errors differ, so that it can be told which came first
	long := strings.Repeat("x", 79)
	bad := lab(4, 0, 0, 0)
	no := api.Rings{R1: 8}
	for i, x := range []struct {
		n    api.Node
		want api.Errno
	}{
		{api.Node{Path: long, Label: bad, By: bad, Acl: make([]api.Grant, 5), Rings: no, Words: words(17)}, api.ErrLong},
		{api.Node{Path: long, Label: bad, Dir: true, Words: words(17)}, api.ErrLong},
		{api.Node{Path: "x", Acl: make([]api.Grant, 5)}, api.ErrArg},
		{api.Node{Path: "/", Label: bad, Acl: make([]api.Grant, 5)}, api.ErrArg},
		{api.Node{Path: "/", By: bad, Acl: make([]api.Grant, 5)}, api.ErrArg},
		{api.Node{Path: "/a", Dir: true, By: bad, Rings: no}, api.ErrArg},
		{api.Node{Path: "/", Acl: make([]api.Grant, 5), Rings: no}, api.ErrMany},
		{api.Node{Path: "/", Dir: true, Acl: make([]api.Grant, 5), Rings: no}, api.ErrMany},
		{api.Node{Path: "/", Acl: make([]api.Grant, 4), Rings: no}, api.ErrArg},
		{api.Node{Path: "/a", Dir: true, Acl: make([]api.Grant, 4), Words: words(1)}, api.ErrArg},
		{api.Node{Path: "/", Rings: no, Words: words(17)}, api.ErrKind},
		{api.Node{Path: "/"}, api.ErrKind},
		{api.Node{Path: "/", Dir: true, Rings: no, Words: words(17)}, api.ErrBad},
		{api.Node{Path: "/a", Dir: true, Rings: no}, api.ErrBad},
		{api.Node{Path: "/a", Dir: true, Words: words(17)}, api.ErrBad},
		{api.Node{Path: "/a", Rings: no, Words: words(17)}, api.ErrArg},
		{api.Node{Path: "/a", Words: words(17)}, api.ErrMany},
	} {
		if e := node.Check(x.n); e != x.want {
			t.Errorf("P6: %d: %v, not %v", i, e, x.want)
		}
	}
}

// sayText to sayEntry say P1002 once more, by the library's buffer.
func sayText(w *bytes.Buffer, s string) {
	w.WriteByte(byte(len(s)))
	w.WriteString(s)
}

func sayLabel(w *bytes.Buffer, l api.Label) {
	for _, n := range []int{l.Sec, l.SecCats, l.Int, l.IntCats} {
		w.WriteByte(byte(n))
	}
}

func sayNode(n api.Node) []byte {
	var w bytes.Buffer
	sayText(&w, n.Path)
	w.WriteByte(map[bool]byte{true: 1}[n.Dir])
	sayLabel(&w, n.Label)
	sayLabel(&w, n.By)
	w.WriteByte(byte(len(n.Acl)))
	for _, g := range n.Acl {
		sayText(&w, g.User)
		w.WriteByte(byte(g.Modes))
	}
	for _, r := range []int{n.Rings.R1, n.Rings.R2, n.Rings.R3, n.Rings.Gates} {
		w.WriteByte(byte(r))
	}
	w.WriteByte(byte(len(n.Words)))
	binary.Write(&w, binary.BigEndian, n.Words)
	return w.Bytes()
}

func sayMessage(m api.Message) []byte {
	var w bytes.Buffer
	sayText(&w, m.From)
	sayLabel(&w, m.Label)
	sayText(&w, m.To)
	sayLabel(&w, m.Box)
	sayText(&w, m.Text)
	return w.Bytes()
}

func sayEntry(e api.Entry) []byte {
	var w bytes.Buffer
	binary.Write(&w, binary.BigEndian, int64(e.Seq))
	sayLabel(&w, e.Label)
	sayText(&w, e.User)
	w.WriteByte(byte(e.Verb))
	sayText(&w, e.Object)
	w.WriteByte(byte(e.Verdict))
	return w.Bytes()
}

// alike tells the same as Same, by fields, nil and empty lists the same.
func alike(a, b api.Node) bool {
	if len(a.Acl) == 0 {
		a.Acl = nil
	}
	if len(b.Acl) == 0 {
		b.Acl = nil
	}
	if len(a.Words) == 0 {
		a.Words = nil
	}
	if len(b.Words) == 0 {
		b.Words = nil
	}
	return reflect.DeepEqual(a, b)
}

// holdNode, holdMessage and holdEntry hold one to P1002 and P1003.
func holdNode(t *testing.T, n api.Node) {
	t.Helper()
	b := node.Encode(n)
	if want := sayNode(n); !bytes.Equal(b, want) {
		t.Fatalf("P1002: Encode of %#v: %x, not %x", n, b, want)
	}
	m, e := node.Parse(b)
	if e != api.OK || !alike(m, n) || !node.Same(m, n) || !node.Same(n, m) {
		t.Fatalf("P1003: %#v is parsed as %#v, %v", n, m, e)
	}
	if again := node.Encode(m); !bytes.Equal(again, b) {
		t.Fatalf("P1003: %x is encoded as %x", b, again)
	}
}

func holdMessage(t *testing.T, m api.Message) {
	t.Helper()
	b := node.EncodeMessage(m)
	if want := sayMessage(m); !bytes.Equal(b, want) {
		t.Fatalf("P1002: EncodeMessage of %#v: %x, not %x", m, b, want)
	}
	x, e := node.ParseMessage(b)
	if e != api.OK || x != m {
		t.Fatalf("P1003: %#v is parsed as %#v, %v", m, x, e)
	}
	if again := node.EncodeMessage(x); !bytes.Equal(again, b) {
		t.Fatalf("P1003: %x is encoded as %x", b, again)
	}
}

func holdEntry(t *testing.T, x api.Entry) {
	t.Helper()
	b := node.EncodeEntry(x)
	if want := sayEntry(x); !bytes.Equal(b, want) {
		t.Fatalf("P1002: EncodeEntry of %#v: %x, not %x", x, b, want)
	}
	y, e := node.ParseEntry(b)
	if e != api.OK || y != x {
		t.Fatalf("P1003: %#v is parsed as %#v, %v", x, y, e)
	}
	if again := node.EncodeEntry(y); !bytes.Equal(again, b) {
		t.Fatalf("P1003: %x is encoded as %x", b, again)
	}
}

func TestMessageExample(t *testing.T) { // the chapter's example 1
	want := []byte{0, 0, 0, 3, 255, 0, 0, 0, 3, 255, 0}
	m := api.Message{Label: bottom(), Box: bottom()}
	if b := node.EncodeMessage(m); !bytes.Equal(b, want) {
		t.Errorf("P1002: a message without texts, at bottom: % x", b)
	}
	if x, e := node.ParseMessage(want); e != api.OK || x != m {
		t.Errorf("P1002: ParseMessage: %#v, %v", x, e)
	}
}

func TestBytesByHand(t *testing.T) { // P1002
	n := api.Node{Path: "/a", Label: lab(1, 2, 3, 4), By: lab(5, 6, 7, 8), Acl: []api.Grant{{User: "*", Modes: 9}, {User: "bo", Modes: 10}}, Rings: api.Rings{R1: 11, R2: 12, R3: 13, Gates: 14}, Words: []int64{0x0102030405060708, -2}}
	want := "\x02/a" + "\x00" + "\x01\x02\x03\x04" + "\x05\x06\x07\x08" + "\x02" + "\x01*\x09" + "\x02bo\x0a" + "\x0b\x0c\x0d\x0e" + "\x02" + "\x01\x02\x03\x04\x05\x06\x07\x08" + "\xff\xff\xff\xff\xff\xff\xff\xfe"
	if b := node.Encode(n); string(b) != want {
		t.Errorf("P1002: Encode: %x, not %x", b, want)
	}
	if x, e := node.Parse([]byte(want)); e != api.OK || !alike(x, n) {
		t.Errorf("P1002: Parse: %#v, %v", x, e)
	}
	d := api.Node{Path: "/", Dir: true, Label: bottom(), By: lab(3, 255, 0, 0)}
	want = "\x01/" + "\x01" + "\x00\x00\x03\xff" + "\x03\xff\x00\x00" + "\x00" + "\x00\x00\x00\x00" + "\x00"
	if b := node.Encode(d); string(b) != want {
		t.Errorf("P1002: Encode: %x, not %x", b, want)
	}
	if x, e := node.Parse([]byte(want)); e != api.OK || !alike(x, d) {
		t.Errorf("P1002: Parse: %#v, %v", x, e)
	}
	if b := node.Encode(api.Node{}); !bytes.Equal(b, make([]byte, 16)) {
		t.Errorf("P1002: Encode of a node of zero values: %x", b)
	}
	m := api.Message{From: "ann", Label: lab(1, 2, 3, 4), To: "b", Box: lab(5, 6, 7, 8), Text: "hi"}
	want = "\x03ann" + "\x01\x02\x03\x04" + "\x01b" + "\x05\x06\x07\x08" + "\x02hi"
	if b := node.EncodeMessage(m); string(b) != want {
		t.Errorf("P1002: EncodeMessage: %x, not %x", b, want)
	}
	if x, e := node.ParseMessage([]byte(want)); e != api.OK || x != m {
		t.Errorf("P1002: ParseMessage: %#v, %v", x, e)
	}
	y := api.Entry{Seq: 0x1112131415161718, Label: lab(1, 2, 3, 4), User: "bo", Verb: api.VSend, Object: "/a/b", Verdict: api.ErrRule}
	want = "\x11\x12\x13\x14\x15\x16\x17\x18" + "\x01\x02\x03\x04" + "\x02bo" + "\x0b" + "\x04/a/b" + "\x13"
	if b := node.EncodeEntry(y); string(b) != want {
		t.Errorf("P1002: EncodeEntry: %x, not %x", b, want)
	}
	if x, e := node.ParseEntry([]byte(want)); e != api.OK || x != y {
		t.Errorf("P1002: ParseEntry: %#v, %v", x, e)
	}
}

func TestNodesThereAndBack(t *testing.T) { // P1002, P1003
	for _, n := range []api.Node{{}, {Dir: true}, seg(), dir(), {Dir: true, Rings: api.Rings{R1: 9}, Words: words(3)}} {
		holdNode(t, n)
		for _, s := range texts() {
			m := n
			m.Path = s
			holdNode(t, m)
			m = n
			m.Acl = []api.Grant{{User: s, Modes: 5}, {User: "a", Modes: 255}, {User: s}}
			holdNode(t, m)
		}
		for k := range 256 {
			m := n
			m.Acl = grants(k)
			holdNode(t, m)
			m = n
			m.Words = words(k)
			holdNode(t, m)
			m = n
			m.Acl = slices.Repeat([]api.Grant{{User: strings.Repeat("u", k), Modes: k}}, 2)
			holdNode(t, m)
			for _, f := range []func(n *api.Node) *int{func(n *api.Node) *int { return &n.Label.Sec }, func(n *api.Node) *int { return &n.Label.SecCats }, func(n *api.Node) *int { return &n.Label.Int }, func(n *api.Node) *int { return &n.Label.IntCats }, func(n *api.Node) *int { return &n.By.Sec }, func(n *api.Node) *int { return &n.By.SecCats }, func(n *api.Node) *int { return &n.By.Int }, func(n *api.Node) *int { return &n.By.IntCats }, func(n *api.Node) *int { return &n.Rings.R1 }, func(n *api.Node) *int { return &n.Rings.R2 }, func(n *api.Node) *int { return &n.Rings.R3 }, func(n *api.Node) *int { return &n.Rings.Gates }} {
				m = n
				*f(&m) = k
				holdNode(t, m)
			}
		}
		for _, w := range edgeWords() {
			m := n
			m.Words = []int64{w}
			holdNode(t, m)
		}
		m := n
		m.Words = edgeWords()
		holdNode(t, m)
	}
	full := api.Node{Path: strings.Repeat("p", 255), Acl: slices.Repeat([]api.Grant{{User: strings.Repeat("\x01", 255), Modes: 255}}, 255), Words: words(255), Label: lab(255, 255, 255, 255), By: lab(255, 255, 255, 255), Rings: api.Rings{R1: 255, R2: 255, R3: 255, Gates: 255}}
	holdNode(t, full)
}

func TestMessagesThereAndBack(t *testing.T) { // P1002, P1003
	for _, a := range texts() {
		for _, b := range texts() {
			for _, c := range texts() {
				holdMessage(t, api.Message{From: a, Label: lab(1, 2, 3, 4), To: b, Box: lab(5, 6, 7, 8), Text: c})
			}
		}
	}
	for k := range 256 {
		for _, f := range []func(m *api.Message) *int{func(m *api.Message) *int { return &m.Label.Sec }, func(m *api.Message) *int { return &m.Label.SecCats }, func(m *api.Message) *int { return &m.Label.Int }, func(m *api.Message) *int { return &m.Label.IntCats }, func(m *api.Message) *int { return &m.Box.Sec }, func(m *api.Message) *int { return &m.Box.SecCats }, func(m *api.Message) *int { return &m.Box.Int }, func(m *api.Message) *int { return &m.Box.IntCats }} {
			m := api.Message{From: "ann", Label: bottom(), To: "bob", Box: bottom(), Text: strings.Repeat("t", k)}
			*f(&m) = k
			holdMessage(t, m)
		}
	}
}

func TestEntriesThereAndBack(t *testing.T) { // P1002, P1003
	for _, a := range texts() {
		for _, b := range texts() {
			holdEntry(t, api.Entry{Seq: 7, Label: lab(1, 2, 3, 4), User: a, Verb: 5, Object: b, Verdict: 6})
		}
	}
	for _, w := range edgeWords() {
		holdEntry(t, api.Entry{Seq: int(w), Label: lab(1, 2, 3, 4), User: "u", Verb: 5, Object: "o", Verdict: 6})
	}
	for k := range 256 {
		holdEntry(t, api.Entry{Verb: k, Label: lab(k, 0, 255, 1)})
		holdEntry(t, api.Entry{Verdict: api.Errno(k), Label: lab(0, k, 1, 255)})
		holdEntry(t, api.Entry{User: strings.Repeat("u", k), Label: lab(1, 0, k, 255)})
		holdEntry(t, api.Entry{Object: strings.Repeat("o", k), Label: lab(1, 0, 255, k)})
	}
}

// eater goes through bytes as P1002 tells them, and keeps the first error that it meets.
type eater struct {
	b []byte
	e api.Errno
}

func (x *eater) eat(n int) []byte {
	if x.e != api.OK {
		return make([]byte, n)
	}
	if len(x.b) < n {
		x.e = api.ErrCut
		return make([]byte, n)
	}
	front := x.b[:n]
	x.b = x.b[n:]
	return front
}

func (x *eater) text() string { return string(x.eat(int(x.eat(1)[0]))) }

func (x *eater) skip(n int) { x.eat(n) }

func (x *eater) end() api.Errno {
	if x.e == api.OK && len(x.b) > 0 {
		return api.ErrMore
	}
	return x.e
}

// wantNode, wantMessage and wantEntry tell what Parse.. of b has for an error.
func wantNode(b []byte) api.Errno {
	x := &eater{b: b}
	x.text()
	if x.eat(1)[0] > 1 {
		x.e = api.ErrBad
	}
	x.skip(4)
	x.skip(4)
	for n := x.eat(1)[0]; n > 0; n-- {
		x.text()
		x.skip(1)
	}
	x.skip(4)
	for n := x.eat(1)[0]; n > 0; n-- {
		x.skip(8)
	}
	return x.end()
}

func wantMessage(b []byte) api.Errno {
	x := &eater{b: b}
	x.text()
	x.skip(4)
	x.text()
	x.skip(4)
	x.text()
	return x.end()
}

func wantEntry(b []byte) api.Errno {
	x := &eater{b: b}
	x.skip(8)
	x.skip(4)
	x.text()
	x.skip(1)
	x.text()
	x.skip(1)
	return x.end()
}

// holdBytes holds the three parsers to what they have for these bytes, and tells the three errors.
func holdBytes(t *testing.T, b []byte) [3]api.Errno {
	t.Helper()
	n, e := node.Parse(b)
	if want := wantNode(b); e != want {
		t.Fatalf("P1002: Parse of %x: %v, not %v", b, e, want)
	}
	if e == api.OK && !bytes.Equal(node.Encode(n), b) {
		t.Fatalf("P1003: %x is encoded as %x", b, node.Encode(n))
	}
	if e != api.OK && (!alike(n, api.Node{}) || len(n.Acl) > 0 || len(n.Words) > 0) {
		t.Fatalf("P4: Parse of %x: %#v beside %v", b, n, e)
	}
	m, f := node.ParseMessage(b)
	if want := wantMessage(b); f != want {
		t.Fatalf("P1002: ParseMessage of %x: %v, not %v", b, f, want)
	}
	if f == api.OK && !bytes.Equal(node.EncodeMessage(m), b) {
		t.Fatalf("P1003: %x is encoded as %x", b, node.EncodeMessage(m))
	}
	if f != api.OK && m != (api.Message{}) {
		t.Fatalf("P4: ParseMessage of %x: %#v beside %v", b, m, f)
	}
	x, g := node.ParseEntry(b)
	if want := wantEntry(b); g != want {
		t.Fatalf("P1002: ParseEntry of %x: %v, not %v", b, g, want)
	}
	if g == api.OK && !bytes.Equal(node.EncodeEntry(x), b) {
		t.Fatalf("P1003: %x is encoded as %x", b, node.EncodeEntry(x))
	}
	if g != api.OK && x != (api.Entry{}) {
		t.Fatalf("P4: ParseEntry of %x: %#v beside %v", b, x, g)
	}
	return [3]api.Errno{e, f, g}
}

// someNodes, someMessages and someEntries are short enough that every front of them is tried.
func someNodes() []api.Node {
	return []api.Node{{}, {Dir: true}, seg(), dir(), {Path: "\x02\x02\x02", Acl: []api.Grant{{}, {User: "", Modes: 255}}, Words: []int64{0}}, {Path: strings.Repeat("p", 255), Acl: grants(255), Words: words(255)}}
}

func someMessages() []api.Message {
	return []api.Message{{}, {From: "ann", Label: lab(1, 2, 3, 4), To: "bob", Box: lab(5, 6, 7, 8), Text: "hi"}, {From: strings.Repeat("f", 255), To: strings.Repeat("t", 255), Text: strings.Repeat("x", 255)}}
}

func someEntries() []api.Entry {
	return []api.Entry{{}, {Seq: -1, Label: lab(1, 2, 3, 4), User: "ann", Verb: 5, Object: "/a", Verdict: 15}, {Seq: math.MinInt, User: strings.Repeat("u", 255), Object: strings.Repeat("o", 255), Verdict: 255}}
}

func TestFronts(t *testing.T) { // P1002, P4: every front lacks something; of no bytes, and nil, too
	for _, n := range someNodes() {
		b := node.Encode(n)
		for k := range b {
			if x, e := node.Parse(b[:k]); e != api.ErrCut || !alike(x, api.Node{}) {
				t.Fatalf("P1002: Parse of %d bytes of %d: %#v, %v", k, len(b), x, e)
			}
			if x, e := node.Parse(b[:k:k]); e != api.ErrCut || !alike(x, api.Node{}) { // no spare room behind it
				t.Fatalf("P1002: Parse of %d bytes of %d: %#v, %v", k, len(b), x, e)
			}
		}
	}
	for _, m := range someMessages() {
		b := node.EncodeMessage(m)
		for k := range b {
			if x, e := node.ParseMessage(b[:k]); e != api.ErrCut || x != (api.Message{}) {
				t.Fatalf("P1002: ParseMessage of %d bytes of %d: %#v, %v", k, len(b), x, e)
			}
		}
	}
	for _, y := range someEntries() {
		b := node.EncodeEntry(y)
		for k := range b {
			if x, e := node.ParseEntry(b[:k]); e != api.ErrCut || x != (api.Entry{}) {
				t.Fatalf("P1002: ParseEntry of %d bytes of %d: %#v, %v", k, len(b), x, e)
			}
		}
	}
	for _, b := range [][]byte{nil, {}} {
		if all := holdBytes(t, b); all != [3]api.Errno{api.ErrCut, api.ErrCut, api.ErrCut} {
			t.Errorf("P1002: of no bytes: %v", all)
		}
	}
}

func TestMore(t *testing.T) { // P1002, P4
	for _, more := range [][]byte{{0}, {1}, {255}, {0, 0}, make([]byte, 300)} {
		for _, n := range someNodes() {
			if x, e := node.Parse(append(node.Encode(n), more...)); e != api.ErrMore || !alike(x, api.Node{}) {
				t.Errorf("P1002: Parse with %d more: %#v, %v", len(more), x, e)
			}
		}
		for _, m := range someMessages() {
			if x, e := node.ParseMessage(append(node.EncodeMessage(m), more...)); e != api.ErrMore || x != (api.Message{}) {
				t.Errorf("P1002: ParseMessage with %d more: %#v, %v", len(more), x, e)
			}
		}
		for _, y := range someEntries() {
			if x, e := node.ParseEntry(append(node.EncodeEntry(y), more...)); e != api.ErrMore || x != (api.Entry{}) {
				t.Errorf("P1002: ParseEntry with %d more: %#v, %v", len(more), x, e)
			}
		}
	}
}

func TestByteOfDirectories(t *testing.T) { // P1002, P4, P6
	for _, n := range someNodes() {
		b := node.Encode(n)
		at := 1 + len(n.Path)
		for k := range 256 {
			b[at] = byte(k)
			x, e := node.Parse(b)
			if k > 1 {
				if e != api.ErrBad || !alike(x, api.Node{}) {
					t.Fatalf("P1002: Parse with %d for a directory: %#v, %v", k, x, e)
				}
				// It stands ahead of where the bytes end, and of what they have more.
				for end := at + 1; end <= len(b); end++ {
					if x, e := node.Parse(b[:end]); e != api.ErrBad || !alike(x, api.Node{}) {
						t.Fatalf("P1002: Parse of %d bytes with %d for a directory: %#v, %v", end, k, x, e)
					}
				}
				if x, e := node.Parse(append(slices.Clone(b), 0)); e != api.ErrBad || !alike(x, api.Node{}) {
					t.Fatalf("P6: Parse with %d for a directory, and more: %#v, %v", k, x, e)
				}
				// Where they end ahead of it, it is not met.
				if _, e := node.Parse(b[:at]); e != api.ErrCut {
					t.Fatalf("P1002: Parse of the bytes ahead of %d for a directory: %v", k, e)
				}
				continue
			}
			want := n
			want.Dir = k == 1
			if e != api.OK || !alike(x, want) {
				t.Fatalf("P1002: Parse with %d for a directory: %#v, %v", k, x, e)
			}
		}
	}
}

func TestCountsThatSayOtherwise(t *testing.T) { // P1002: more or fewer than what is there
	n := seg()
	b := node.Encode(n)
	list := 1 + len(n.Path) + 1 + 4 + 4
	for _, at := range []int{0, list, list + 1} {
		for k := range 256 {
			c := slices.Clone(b)
			c[at] = byte(k)
			holdBytes(t, c)
		}
	}
	at := len(b) - 8*len(n.Words) - 1
	for k := range 256 {
		b[at] = byte(k)
		want := first(when(k > len(n.Words), api.ErrCut), when(k < len(n.Words), api.ErrMore))
		if _, e := node.Parse(b); e != want {
			t.Errorf("P1002: Parse with %d words said, and %d there: %v", k, len(n.Words), e)
		}
	}
	for k := 1; k < 256; k++ {
		for _, at := range []int{0, 10, 15} { // of a node of zero values: the counts of its text, its grants, its words
			c := make([]byte, 16)
			c[at] = byte(k)
			if _, e := node.Parse(c); e != api.ErrCut {
				t.Errorf("P1002: Parse of zeroes, %d at %d: %v", k, at, e)
			}
		}
	}
}

func TestShortBytes(t *testing.T) { // P1002, P1003, P4, P1: all rows of up to six of some bytes, and what stands behind them
	some := []byte{0, 1, 2, 255}
	for _, behind := range [][]byte{nil, make([]byte, 5), make([]byte, 10), make([]byte, 16), bytes.Repeat([]byte{1}, 20)} {
		for n := range 7 {
			for k := range 1 << (2 * n) {
				b := make([]byte, n, n+len(behind))
				for i := range b {
					b[i] = some[k>>(2*i)%4]
				}
				holdBytes(t, append(b, behind...))
			}
		}
	}
}

// wild are nodes, messages and entries of whatever bytes can say.
func wildLabel(r *rand.Rand) api.Label {
	return lab(r.IntN(256), r.IntN(256), r.IntN(256), r.IntN(256))
}

func wildText(r *rand.Rand) string {
	b := make([]byte, r.IntN(1+r.IntN(256)))
	for i := range b {
		b[i] = byte(r.IntN(256))
	}
	return string(b)
}

func wildNode(r *rand.Rand) api.Node {
	n := api.Node{Path: wildText(r), Dir: r.IntN(2) == 0, Label: wildLabel(r), By: wildLabel(r), Rings: api.Rings{R1: r.IntN(256), R2: r.IntN(256), R3: r.IntN(256), Gates: r.IntN(256)}}
	for range r.IntN(1 + r.IntN(8)) {
		n.Acl = append(n.Acl, api.Grant{User: wildText(r), Modes: r.IntN(256)})
	}
	for range r.IntN(1 + r.IntN(20)) {
		n.Words = append(n.Words, int64(r.Uint64()))
	}
	return n
}

func wildMessage(r *rand.Rand) api.Message {
	return api.Message{From: wildText(r), Label: wildLabel(r), To: wildText(r), Box: wildLabel(r), Text: wildText(r)}
}

func wildEntry(r *rand.Rand) api.Entry {
	return api.Entry{Seq: int(r.Uint64()), Label: wildLabel(r), User: wildText(r), Verb: r.IntN(256), Object: wildText(r), Verdict: api.Errno(r.IntN(256))}
}

func TestWild(t *testing.T) { // P1002, P1003: such as Check refuses, too
	r := rand.New(rand.NewPCG(10, 1))
	refused := 0
	for range 3000 {
		n := wildNode(r)
		if node.Check(n) != api.OK {
			refused++
		}
		holdNode(t, n)
		holdMessage(t, wildMessage(r))
		holdEntry(t, wildEntry(r))
	}
	if refused == 0 {
		t.Error("P1003: none that Check refuses was tried")
	}
}

func TestSpoiledBytes(t *testing.T) { // P1002, P1003, P4, P1
	r := rand.New(rand.NewPCG(10, 2))
	var seen [3][12]int
	for range 20000 {
		b := [][]byte{node.Encode(wildNode(r)), node.EncodeMessage(wildMessage(r)), node.EncodeEntry(wildEntry(r)), make([]byte, r.IntN(40))}[r.IntN(4)]
		for range r.IntN(4) {
			at := r.IntN(len(b) + 1)
			switch r.IntN(4) {
			case 0:
				b = b[:at]
			case 1:
				b = slices.Insert(b, at, byte(r.IntN(4)))
			case 2:
				if at < len(b) {
					b = slices.Delete(b, at, at+1)
				}
			case 3:
				if at < len(b) {
					b[at] = byte(r.IntN(1 + r.IntN(256)))
				}
			}
		}
		for i, e := range holdBytes(t, b) {
			seen[i][e]++
		}
	}
	for i := range seen {
		for _, e := range []api.Errno{api.OK, api.ErrCut, api.ErrMore} {
			if seen[i][e] < 100 {
				t.Errorf("the test met %v only %d times", e, seen[i][e])
			}
		}
	}
	if seen[0][api.ErrBad] < 100 {
		t.Errorf("the test met %v only %d times", api.ErrBad, seen[0][api.ErrBad])
	}
}

func TestSame(t *testing.T) { // P1002, P2
	for _, n := range []func() api.Node{seg, dir, func() api.Node { return api.Node{} }, func() api.Node { return someNodes()[5] }} {
		if a, b := n(), n(); !node.Same(a, b) || !node.Same(a, a) {
			t.Errorf("P1002: Same of %#v and itself", n())
		}
	}
	none := api.Node{Path: "/a"}
	for _, acl := range [][]api.Grant{nil, {}, make([]api.Grant, 0, 4)} {
		for _, words := range [][]int64{nil, {}, make([]int64, 0, 4)} {
			n := api.Node{Path: "/a", Acl: acl, Words: words}
			if !node.Same(n, none) || !node.Same(none, n) {
				t.Error("P2: no list and an empty one")
			}
		}
	}
	for i, f := range []func(n *api.Node){
		func(n *api.Node) { n.Path = "/home/anm" },
		func(n *api.Node) { n.Path = "/home/an" },
		func(n *api.Node) { n.Path = "/home/ann\x00" },
		func(n *api.Node) { n.Path = "" },
		func(n *api.Node) { n.Dir = true },
		func(n *api.Node) { n.Label.Sec++ },
		func(n *api.Node) { n.Label.SecCats++ },
		func(n *api.Node) { n.Label.Int++ },
		func(n *api.Node) { n.Label.IntCats++ },
		func(n *api.Node) { n.By.Sec++ },
		func(n *api.Node) { n.By.SecCats++ },
		func(n *api.Node) { n.By.Int++ },
		func(n *api.Node) { n.By.IntCats++ },
		func(n *api.Node) { n.Label, n.By = n.By, n.Label },
		func(n *api.Node) { n.Rings.R1++ },
		func(n *api.Node) { n.Rings.R2++ },
		func(n *api.Node) { n.Rings.R3++ },
		func(n *api.Node) { n.Rings.Gates++ },
		func(n *api.Node) { n.Acl[0].User = "a" },
		func(n *api.Node) { n.Acl[1].User = "anm" },
		func(n *api.Node) { n.Acl[2].User = "bobo" },
		func(n *api.Node) { n.Acl[0].Modes++ },
		func(n *api.Node) { n.Acl[1].Modes-- },
		func(n *api.Node) { n.Acl[2].Modes = 0 },
		func(n *api.Node) { n.Acl[1], n.Acl[2] = n.Acl[2], n.Acl[1] },
		func(n *api.Node) { n.Acl = n.Acl[:2] },
		func(n *api.Node) { n.Acl = n.Acl[1:] },
		func(n *api.Node) { n.Acl = nil },
		func(n *api.Node) { n.Acl = append(n.Acl, api.Grant{}) },
		func(n *api.Node) { n.Words[0]++ },
		func(n *api.Node) { n.Words[1] = 2 },
		func(n *api.Node) { n.Words[2]-- },
		func(n *api.Node) { n.Words[3] = 0 },
		func(n *api.Node) { n.Words[0] += 1 << 32 },
		func(n *api.Node) { n.Words[0], n.Words[1] = n.Words[1], n.Words[0] },
		func(n *api.Node) { n.Words = n.Words[:3] },
		func(n *api.Node) { n.Words = n.Words[1:] },
		func(n *api.Node) { n.Words = nil },
		func(n *api.Node) { n.Words = append(n.Words, 0) },
		// What bytes can't tell apart, since each number is one.
		func(n *api.Node) { n.Label.Sec += 256 },
		func(n *api.Node) { n.Label.IntCats -= 256 },
		func(n *api.Node) { n.By.SecCats += 1 << 40 },
		func(n *api.Node) { n.Rings.Gates += 256 },
		func(n *api.Node) { n.Acl[1].Modes += 256 },
	} {
		n := seg()
		f(&n)
		if node.Same(n, seg()) || node.Same(seg(), n) {
			t.Errorf("P1002: %d: Same of %#v and %#v", i, n, seg())
		}
		m := seg()
		f(&m)
		if !node.Same(n, m) {
			t.Errorf("P1002: %d: not Same of %#v and itself", i, n)
		}
	}
}

func TestSameOfMany(t *testing.T) { // P1002: near ones, each against each
	var all []api.Node
	for k := range 256 {
		n := api.Node{Path: "/a", Dir: k&1 > 0, Label: lab(k>>1&1, 0, 0, 0), By: lab(k>>2&1, 0, 0, 0), Rings: api.Rings{R1: k >> 3 & 1}}
		if k>>4&1 > 0 {
			n.Acl = []api.Grant{{User: "a", Modes: 1 + k>>5&1}}
		}
		if k>>6&1 > 0 {
			n.Words = []int64{int64(k >> 7 & 1)}
		}
		all = append(all, n)
	}
	for _, a := range all {
		for _, b := range all {
			if node.Same(a, b) != alike(a, b) {
				t.Fatalf("P1002: Same of %#v and %#v: %v", a, b, node.Same(a, b))
			}
		}
	}
}

// roomy is n with spare room behind its lists, in which something stands; the whole of the lists is told, too.
func roomy(n api.Node) (api.Node, []api.Grant, []int64) {
	acl := append(slices.Clone(n.Acl), slices.Repeat([]api.Grant{{User: "spare", Modes: 77}}, 6)...)
	words := append(slices.Clone(n.Words), slices.Repeat([]int64{-77}, 6)...)
	n.Acl, n.Words = acl[:len(n.Acl)], words[:len(n.Words)]
	return n, acl, words
}

func TestNodesAreLeft(t *testing.T) { // P2
	for _, x := range append(someNodes(), wrongNodes()...) {
		n, acl, words := roomy(x)
		wasAcl, wasWords := slices.Clone(acl), slices.Clone(words)
		node.Check(n)
		b := node.Encode(n)
		node.Same(n, seg())
		node.Same(seg(), n)
		node.Same(n, n)
		for i := range b[:cap(b)] {
			b[:cap(b)][i] = 0xa5
		}
		if !slices.Equal(acl, wasAcl) || !slices.Equal(words, wasWords) {
			t.Errorf("P2: a node that was handed in has changed: %#v", n)
		}
	}
}

func TestEncodeIsNewMemory(t *testing.T) { // P2, P3
	scrawl := func(b []byte) {
		for i := range b[:cap(b)] {
			b[:cap(b)][i] ^= 0xff
		}
	}
	for i, f := range []func() []byte{
		func() []byte { return node.Encode(seg()) },
		func() []byte { return node.Encode(api.Node{}) },
		func() []byte { return node.EncodeMessage(someMessages()[1]) },
		func() []byte { return node.EncodeEntry(someEntries()[1]) },
	} {
		a, b := f(), f()
		want := slices.Clone(a)
		if !bytes.Equal(b, want) {
			t.Errorf("P3: %d: %x, then %x", i, a, b)
		}
		scrawl(a)
		if !bytes.Equal(b, want) || !bytes.Equal(f(), want) {
			t.Errorf("P2: %d: two answers share memory", i)
		}
	}
}

func TestParseIsNewMemory(t *testing.T) { // P2, P3
	for _, want := range someNodes() {
		whole := append(node.Encode(want), slices.Repeat([]byte{0x5a}, 50)...)
		was := slices.Clone(whole)
		b := whole[:len(whole)-50]
		x, e := node.Parse(b)
		y, f := node.Parse(b)
		if e != api.OK || f != api.OK || !alike(x, y) {
			t.Fatalf("P3: Parse: %#v, then %#v", x, y)
		}
		for i := range x.Acl[:cap(x.Acl)] {
			x.Acl[:cap(x.Acl)][i] = api.Grant{User: "scrawl", Modes: 99}
		}
		for i := range x.Words[:cap(x.Words)] {
			x.Words[:cap(x.Words)][i] = 99
		}
		if !bytes.Equal(whole, was) || !alike(y, want) {
			t.Errorf("P2: what was parsed shares memory")
		}
		for i := range whole {
			whole[i] ^= 0xff
		}
		if !alike(y, want) {
			t.Errorf("P2: what was parsed shares memory with the bytes: %#v", y)
		}
	}
	b := node.EncodeMessage(someMessages()[1])
	m, _ := node.ParseMessage(b)
	c := node.EncodeEntry(someEntries()[1])
	x, _ := node.ParseEntry(c)
	for _, l := range [][]byte{b, c} {
		for i := range l {
			l[i] ^= 0xff
		}
	}
	if m != someMessages()[1] || x != someEntries()[1] {
		t.Errorf("P2: what was parsed shares memory with the bytes: %#v, %#v", m, x)
	}
}

func TestBytesAreLeft(t *testing.T) { // P2: whether they are refused or not
	r := rand.New(rand.NewPCG(10, 3))
	for range 2000 {
		whole := slices.Concat(node.Encode(wildNode(r)), node.EncodeMessage(wildMessage(r)), node.EncodeEntry(wildEntry(r)))
		was := slices.Clone(whole)
		b := whole[:r.IntN(len(whole)+1)]
		node.Parse(b)
		node.ParseMessage(b)
		node.ParseEntry(b)
		if !bytes.Equal(whole, was) {
			t.Fatalf("P2: %x has become %x", was, whole)
		}
	}
}

func TestErrorsLeaveNothing(t *testing.T) { // P3, P5: what was refused is not to be seen in what is parsed behind it
	good, bad := node.Encode(seg()), make([]byte, 9)
	bad[1] = 7
	for range 3 {
		for _, b := range [][]byte{good[:len(good)-1], bad, append(slices.Clone(good), 1), nil} {
			if _, e := node.Parse(b); e == api.OK {
				t.Errorf("P1002: Parse of %x", b)
			}
			if n, e := node.Parse(good); e != api.OK || !alike(n, seg()) {
				t.Errorf("P3: Parse: %#v, %v", n, e)
			}
		}
	}
}

// wrongNodes have what bytes can't say.
func wrongNodes() []api.Node {
	out := []api.Node{{Path: strings.Repeat("p", 256)}, {Path: strings.Repeat("p", 70000)}, {Acl: grants(256)}, {Acl: grants(1000)}, {Words: words(256)}, {Words: words(70000)}, {Acl: []api.Grant{{User: strings.Repeat("u", 300), Modes: math.MinInt}}}}
	for _, k := range []int{-1, 256, -256, math.MaxInt, math.MinInt, 1 << 32} {
		out = append(out, api.Node{Label: lab(k, k, k, k), By: lab(k, k, k, k), Rings: api.Rings{R1: k, R2: k, R3: k, Gates: k}, Acl: []api.Grant{{User: "a", Modes: k}}})
	}
	return out
}

func TestWhatBytesCannotSay(t *testing.T) { // P1, P8: no call panics, and Same is asked of them all the same
	for i, a := range wrongNodes() {
		node.Check(a)
		node.Encode(a)
		for j, b := range wrongNodes() {
			if node.Same(a, b) != (i == j) {
				t.Errorf("P1002: Same of the wrong ones %d and %d: %v", i, j, i != j)
			}
		}
	}
	long := strings.Repeat("x", 1000)
	for _, k := range []int{-1, 256, math.MaxInt, math.MinInt} {
		node.EncodeMessage(api.Message{From: long, Label: lab(k, k, k, k), To: long, Box: lab(k, k, k, k), Text: long})
		node.EncodeEntry(api.Entry{Seq: k, Label: lab(k, k, k, k), User: long, Verb: k, Object: long, Verdict: api.Errno(k)})
	}
}
