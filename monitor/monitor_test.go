package monitor_test

import (
	"math"
	"math/rand/v2"
	"slices"
	"strings"
	"testing"

	"donjon/api"
	"donjon/label"
	"donjon/monitor"
	"donjon/node"
	"donjon/path"
	"donjon/tree"
)

func lab(sec, secCats, integ, intCats int) api.Label {
	return api.Label{Sec: sec, SecCats: secCats, Int: integ, IntCats: intCats}
}

func bottom() api.Label { return lab(0, 0, 3, 255) }

// high and higher are over bottom, higher over high, top over all; aside is over bottom alone.
func high() api.Label { return lab(1, 1, 2, 6) }

func higher() api.Label { return lab(2, 5, 1, 2) }

func top() api.Label { return lab(3, 255, 0, 0) }

func aside() api.Label { return lab(1, 2, 3, 255) }

// lattice are those, and what differs from high in one number alone, each way.
func lattice() []api.Label {
	return []api.Label{
		bottom(), high(), higher(), top(), aside(), lab(0, 0, 0, 0), lab(3, 255, 3, 255),
		lab(0, 1, 2, 6), lab(2, 1, 2, 6), lab(1, 0, 2, 6), lab(1, 3, 2, 6), lab(1, 2, 2, 6), lab(1, 1, 1, 6), lab(1, 1, 3, 6), lab(1, 1, 2, 2), lab(1, 1, 2, 7), lab(1, 1, 2, 8),
	}
}

func grant(user string, modes int) api.Grant { return api.Grant{User: user, Modes: modes} }

func dir(p string, at api.Label, list ...api.Grant) api.Node {
	return api.Node{Path: p, Dir: true, Label: at, By: high(), Acl: list}
}

func seg(p string, at api.Label, list ...api.Grant) api.Node {
	return api.Node{Path: p, Label: at, By: aside(), Acl: list, Rings: api.Rings{R1: 1, R2: 3, R3: 5, Gates: 2}, Words: []int64{int64(len(p)), -2, math.MaxInt64}}
}

func sub(user string, at api.Label) monitor.Subject {
	return monitor.Subject{User: user, Label: at}
}

// some is a tree in which each of several directories has nodes, at labels that rise.
func some() []api.Node {
	every := grant("*", 7)
	return []api.Node{
		dir("/", bottom(), every),
		dir("/h", high(), grant("*", 5), grant("ann", 7)),
		seg("/h/s", high(), grant("ann", 3)),
		dir("/h/t", higher(), every),
		seg("/h/t/u", higher(), every),
		dir("/h/t/v", top(), every),
		seg("/h/t/v/w", top(), every),
		seg("/low", bottom(), grant("*", 1), grant("ann", 2)),
		dir("/none", bottom()),
		seg("/none/x", bottom(), every),
		dir("/side", aside(), every),
		seg("/side/x", aside(), every),
	}
}

// over says W1 once more, number by number.
func over(a, b api.Label) bool {
	return a.Sec >= b.Sec && b.SecCats&^a.SecCats == 0 && a.Int <= b.Int && a.IntCats&^b.IntCats == 0
}

func TestTheTestsOwnTree(t *testing.T) {
	if e := tree.Check(some()); e != api.OK {
		t.Fatalf("the test is wrong: %v", e)
	}
	for _, a := range lattice() {
		for _, b := range lattice() {
			if over(a, b) != label.Over(a, b) || label.Check(a) != api.OK {
				t.Fatalf("the test is wrong: %v, %v", a, b)
			}
		}
	}
}

// way are the paths of the nodes above a path, from / down.
func way(p string) []string {
	var out []string
	for up := path.Parent(p); up != ""; up = path.Parent(up) {
		out = append(out, up)
	}
	slices.Reverse(out)
	return out
}

func find(l []api.Node, p string) (api.Node, bool) {
	for _, n := range l {
		if n.Path == p {
			return n, true
		}
	}
	return api.Node{}, false
}

func modesOf(list []api.Grant, user string) int {
	every := 0
	for _, g := range list {
		if g.User == user {
			return g.Modes
		}
		if g.User == "*" {
			every = g.Modes
		}
	}
	return every
}

// wantSee, wantMay and wantChange say the promises once more.
func wantSee(l []api.Node, s monitor.Subject, p string) (api.Node, api.Errno) {
	if e := path.Check(p); e != api.OK {
		return api.Node{}, e
	}
	for _, up := range way(p) {
		n, is := find(l, up)
		if !is {
			return api.Node{}, api.ErrNone
		}
		if !n.Dir {
			return api.Node{}, api.ErrKind
		}
		if !over(s.Label, n.Label) {
			return api.Node{}, api.ErrLabel
		}
	}
	n, is := find(l, p)
	if !is {
		return api.Node{}, api.ErrNone
	}
	return n, api.OK
}

func wantMay(l []api.Node, s monitor.Subject, p string, mode int) (api.Node, api.Errno) {
	if !slices.Contains([]int{1, 2, 3, 4, 5, 6, 7}, mode) {
		return api.Node{}, api.ErrArg
	}
	n, e := wantSee(l, s, p)
	if e != api.OK {
		return api.Node{}, e
	}
	read, write, exec := mode%2 == 1, mode/2%2 == 1, mode/4 == 1
	if read && !over(s.Label, n.Label) || exec && !over(s.Label, n.Label) || write && s.Label != n.Label {
		return api.Node{}, api.ErrLabel
	}
	has := modesOf(n.Acl, s.User)
	if read && has%2 == 0 || write && has/2%2 == 0 || exec && has/4 == 0 {
		return api.Node{}, api.ErrAcl
	}
	return n, api.OK
}

func wantChange(l []api.Node, s monitor.Subject, p string) (api.Node, api.Errno) {
	if e := path.Check(p); e != api.OK {
		return api.Node{}, e
	}
	if p == "/" {
		return api.Node{}, api.ErrArg
	}
	n, e := wantMay(l, s, path.Parent(p), 2)
	if e != api.OK {
		return api.Node{}, e
	}
	if !n.Dir {
		return api.Node{}, api.ErrKind
	}
	return n, api.OK
}

// answer is what a call told.
type answer struct {
	n api.Node
	e api.Errno
}

func told(n api.Node, e api.Errno) answer { return answer{n, e} }

// same asks for the whole node, so that beside an error it is one of zero values (P4).
func (a answer) same(b answer) bool { return a.e == b.e && node.Same(a.n, b.n) }

// hold holds all that can be asked of a path to the promises.
func hold(t *testing.T, l []api.Node, s monitor.Subject, p string) {
	t.Helper()
	if got, want := told(monitor.See(l, s, p)), told(wantSee(l, s, p)); !got.same(want) {
		t.Fatalf("P1301: See(%+v, %q): %+v, not %+v", s, p, got, want)
	}
	for mode := -1; mode <= 9; mode++ {
		if got, want := told(monitor.May(l, s, p, mode)), told(wantMay(l, s, p, mode)); !got.same(want) {
			t.Fatalf("P1302: May(%+v, %q, %d): %+v, not %+v", s, p, mode, got, want)
		}
	}
	if got, want := told(monitor.Change(l, s, p)), told(wantChange(l, s, p)); !got.same(want) {
		t.Fatalf("P1303: Change(%+v, %q): %+v, not %+v", s, p, got, want)
	}
}

func TestExample(t *testing.T) { // the chapter's example 1
	first := tree.First(api.Config{Terms: []api.Label{bottom(), high()}})
	s := sub("ann", bottom())
	with := tree.Put(first, seg("/l1/x", high(), grant("*", 7)))
	deep := tree.Put(first, dir("/l1/x", high(), grant("*", 7)))
	for i, l := range [][]api.Node{first, with, deep} {
		if n, e := monitor.See(l, s, "/l1/x"); e != api.ErrLabel || !node.Same(n, api.Node{}) {
			t.Errorf("P1301: %d: See(/l1/x) at Bottom: %+v, %v", i, n, e)
		}
		if n, e := monitor.See(l, s, "/l1"); e != api.OK || !n.Dir || n.Path != "/l1" || n.Label != high() {
			t.Errorf("P1301: %d: See(/l1) at Bottom: %+v, %v", i, n, e)
		}
		if n, e := monitor.See(l, s, "/l1/x/y"); e != api.ErrLabel || !node.Same(n, api.Node{}) {
			t.Errorf("P1301: %d: See(/l1/x/y) at Bottom: %+v, %v", i, n, e)
		}
	}
	if n, e := monitor.See(with, sub("ann", high()), "/l1/x"); e != api.OK || n.Path != "/l1/x" {
		t.Errorf("P1301: See(/l1/x) at its own label: %+v, %v", n, e)
	}
	if _, e := monitor.See(first, sub("ann", high()), "/l1/x"); e != api.ErrNone {
		t.Errorf("P1301: See(/l1/x) at its own label, where it is not there: %v", e)
	}
}

func TestSeeWay(t *testing.T) { // P1301, P4, P6
	for _, x := range []struct {
		at   api.Label
		p    string
		want api.Errno
	}{
		{bottom(), "/", api.OK}, {high(), "/", api.OK}, {top(), "/", api.OK},
		{bottom(), "/h", api.OK}, {aside(), "/h", api.OK}, {top(), "/h", api.OK},
		{high(), "/h/s", api.OK}, {higher(), "/h/s", api.OK}, {top(), "/h/s", api.OK},
		{high(), "/h/t", api.OK}, {higher(), "/h/t/u", api.OK}, {higher(), "/h/t/v", api.OK}, {top(), "/h/t/v/w", api.OK},
		{bottom(), "/none/x", api.OK}, // lists are not asked
		// not there
		{bottom(), "/no", api.ErrNone}, {high(), "/h/no", api.ErrNone}, {top(), "/h/t/v/no", api.ErrNone},
		{bottom(), "/no/x", api.ErrNone}, {bottom(), "/no/x/y", api.ErrNone}, {bottom(), "/no/x/y/z/z/z", api.ErrNone}, {high(), "/h/no/x", api.ErrNone},
		{bottom(), "/hh", api.ErrNone}, {bottom(), "/lo", api.ErrNone}, {bottom(), "/s", api.ErrNone}, {bottom(), "/none/h", api.ErrNone},
		// no directory
		{bottom(), "/low/x", api.ErrKind}, {high(), "/low/x", api.ErrKind}, {bottom(), "/low/x/y", api.ErrKind}, {bottom(), "/low/x/y/z/z/z", api.ErrKind},
		{high(), "/h/s/x", api.ErrKind}, {higher(), "/h/s/x/y", api.ErrKind}, {top(), "/h/t/v/w/x", api.ErrKind},
		// labels
		{bottom(), "/h/s", api.ErrLabel}, {aside(), "/h/s", api.ErrLabel}, {high(), "/side/x", api.ErrLabel}, {bottom(), "/side/x", api.ErrLabel},
		{bottom(), "/h/t", api.ErrLabel}, {high(), "/h/t/u", api.ErrLabel}, {high(), "/h/t/v", api.ErrLabel}, {higher(), "/h/t/v/w", api.ErrLabel},
		// of several, that of the node farthest up
		{bottom(), "/h/no", api.ErrLabel}, {bottom(), "/h/no/x", api.ErrLabel}, {bottom(), "/h/s/x", api.ErrLabel}, {bottom(), "/h/s/x/y", api.ErrLabel},
		{high(), "/h/t/no", api.ErrLabel}, {high(), "/h/t/u/x", api.ErrLabel}, {high(), "/h/t/v/no/x", api.ErrLabel}, {aside(), "/h/t/u", api.ErrLabel},
		{bottom(), "/low/h/s", api.ErrKind}, {bottom(), "/no/h/s", api.ErrNone}, {high(), "/h/s/t/u", api.ErrKind}, {high(), "/h/no/t/u", api.ErrNone},
	} {
		for _, user := range []string{"ann", "bob", "", "*"} {
			n, e := monitor.See(some(), sub(user, x.at), x.p)
			want := api.Node{}
			if x.want == api.OK {
				want, _ = find(some(), x.p)
			}
			if e != x.want || !node.Same(n, want) {
				t.Errorf("P1301: See(%q at %v, %q): %+v, %v, not %v", user, x.at, x.p, n, e, x.want)
			}
		}
	}
}

func TestSeeOfRoot(t *testing.T) { // P1301: the way has no node
	for _, at := range lattice() {
		n, e := monitor.See(some(), sub("ann", at), "/")
		if e != api.OK || !node.Same(n, some()[0]) {
			t.Errorf("P1301: See(/) at %v: %+v, %v", at, n, e)
		}
		n, e = monitor.See(some()[:1], sub("", at), "/")
		if e != api.OK || !node.Same(n, some()[0]) {
			t.Errorf("P1301: See(/) at %v, which is alone: %+v, %v", at, n, e)
		}
		if n, e = monitor.See(some()[:1], sub("", at), "/h"); e != api.ErrNone || !node.Same(n, api.Node{}) {
			t.Errorf("P1301: See(/h) at %v, with / alone: %+v, %v", at, n, e)
		}
	}
}

func TestSeeTellsTheLastWhateverItsLabel(t *testing.T) { // P1301
	for _, up := range lattice() {
		for _, in := range lattice() {
			if !over(in, up) {
				continue
			}
			l := []api.Node{dir("/", bottom()), dir("/a", up), dir("/a/b", in), seg("/a/b/c", in)}
			for _, at := range lattice() {
				s := sub("ann", at)
				if n, e := monitor.See(l, s, "/a"); e != api.OK || !node.Same(n, l[1]) {
					t.Fatalf("P1301: See(/a), a directory at %v, from %v: %+v, %v", up, at, n, e)
				}
				want, wantE := l[2], api.OK
				if !over(at, up) {
					want, wantE = api.Node{}, api.ErrLabel
				}
				if n, e := monitor.See(l, s, "/a/b"); e != wantE || !node.Same(n, want) {
					t.Fatalf("P1301: See(/a/b) at %v in %v, from %v: %+v, %v, not %v", in, up, at, n, e, wantE)
				}
				want, wantE = l[3], api.OK
				if !over(at, up) || !over(at, in) {
					want, wantE = api.Node{}, api.ErrLabel
				}
				if n, e := monitor.See(l, s, "/a/b/c"); e != wantE || !node.Same(n, want) {
					t.Fatalf("P1301: See(/a/b/c) at %v in %v, from %v: %+v, %v, not %v", in, up, at, n, e, wantE)
				}
			}
		}
	}
}

// noPaths are texts that path.Check refuses, with its error.
func noPaths() map[string]api.Errno {
	long := strings.Repeat("/abcdefghij01", 6) // 78 bytes: a path
	return map[string]api.Errno{
		"": api.ErrArg, "h": api.ErrArg, "//": api.ErrArg, "/h/": api.ErrArg, "h/s": api.ErrArg, "//h": api.ErrArg, "/h//s": api.ErrArg, "/H": api.ErrArg, "/h/S": api.ErrArg, "/*": api.ErrArg, "/h s": api.ErrArg, "/.": api.ErrArg, "/h/../low": api.ErrArg, "/\xff": api.ErrArg, "/é": api.ErrArg, " /": api.ErrArg, "/h\x00": api.ErrArg,
		"/abcdefghij012": api.ErrArg, "/low/abcdefghij012": api.ErrArg, "/a/b/c/d/e/f/g": api.ErrArg, "/low/b/c/d/e/f/g": api.ErrArg,
		long + "2": api.ErrLong, long + "/": api.ErrLong, strings.Repeat("x", 79): api.ErrLong, strings.Repeat("/", 1000): api.ErrLong, "/low" + strings.Repeat("/x", 40): api.ErrLong,
	}
}

func TestNoPaths(t *testing.T) { // P1301, P1302, P1303
	for p, want := range noPaths() {
		if e := path.Check(p); e != want {
			t.Fatalf("the test is wrong: %q: %v", p, e)
		}
		for _, at := range lattice() {
			s := sub("ann", at)
			if got := told(monitor.See(some(), s, p)); !got.same(answer{e: want}) {
				t.Errorf("P1301: See(%q): %+v", p, got)
			}
			for mode := 1; mode <= 7; mode++ {
				if got := told(monitor.May(some(), s, p, mode)); !got.same(answer{e: want}) {
					t.Errorf("P1302: May(%q, %d): %+v", p, mode, got)
				}
			}
			if got := told(monitor.Change(some(), s, p)); !got.same(answer{e: want}) {
				t.Errorf("P1303: Change(%q): %+v", p, got)
			}
		}
	}
}

func TestDeepestPath(t *testing.T) { // P1301, P1302, P1303: six names, of twelve bytes each
	l, p := []api.Node{dir("/", bottom(), grant("*", 7))}, ""
	for range 6 {
		p += "/abcdefghij01"
		l = append(l, dir(p, high(), grant("*", 7)))
	}
	if e := tree.Check(l); e != api.OK {
		t.Fatalf("the test is wrong: %v", e)
	}
	s, last, up := sub("ann", high()), l[6], l[5]
	if n, e := monitor.See(l, s, p); e != api.OK || !node.Same(n, last) {
		t.Errorf("P1301: See(%q): %+v, %v", p, n, e)
	}
	if n, e := monitor.May(l, s, p, 7); e != api.OK || !node.Same(n, last) {
		t.Errorf("P1302: May(%q, 7): %+v, %v", p, n, e)
	}
	if n, e := monitor.Change(l, s, p); e != api.OK || !node.Same(n, up) {
		t.Errorf("P1303: Change(%q): %+v, %v", p, n, e)
	}
	if n, e := monitor.Change(l, s, p+"/x"); e != api.ErrLong || !node.Same(n, api.Node{}) {
		t.Errorf("P1303: Change in what is too deep: %+v, %v", n, e)
	}
	if n, e := monitor.Change(l, s, "/a/a/a/a/a/a/a"); e != api.ErrArg || !node.Same(n, api.Node{}) {
		t.Errorf("P1303: Change of seven names: %+v, %v", n, e)
	}
}

func TestMayRefusesModes(t *testing.T) { // P1302, P6, P9: ErrArg, ahead of all else
	far := []int{0, 8, 9, 15, 16, 255, 256, 257, 1 << 16, 1<<32 + 1, 1<<32 + 7, math.MaxInt32, math.MaxInt, -1, -2, -7, -8, -256, math.MinInt32, math.MinInt + 1, math.MinInt}
	places := []string{"/", "/h", "/h/s", "/h/no", "/low", "/low/x", "/no/x", "/none", "/side/x"}
	for p := range noPaths() {
		places = append(places, p)
	}
	for _, mode := range far {
		for _, p := range places {
			for _, at := range []api.Label{bottom(), high(), top()} {
				if got := told(monitor.May(some(), sub("ann", at), p, mode)); !got.same(answer{e: api.ErrArg}) {
					t.Errorf("P1302: May(%q, %d): %+v", p, mode, got)
				}
			}
		}
	}
}

func TestMayLabels(t *testing.T) { // P1302, P1304: reading from what one is over, writing at the very label alone
	for _, of := range lattice() {
		l := []api.Node{dir("/", bottom(), grant("*", 7)), dir("/d", of, grant("*", 7)), seg("/d/s", of, grant("*", 7))}
		for _, at := range lattice() {
			for mode, want := range map[int]bool{1: over(at, of), 2: at == of, 3: at == of, 4: over(at, of), 5: over(at, of), 6: at == of, 7: at == of} {
				got := told(monitor.May(l, sub("bob", at), "/d", mode))
				if want && !got.same(answer{n: l[1]}) || !want && !got.same(answer{e: api.ErrLabel}) {
					t.Errorf("P1302: May(/d at %v, %d) from %v: %+v", of, mode, at, got)
				}
				got = told(monitor.May(l, sub("bob", at), "/d/s", mode))
				if want && !got.same(answer{n: l[2]}) || !want && !got.same(answer{e: api.ErrLabel}) {
					t.Errorf("P1302: May(/d/s at %v, %d) from %v: %+v", of, mode, at, got)
				}
			}
		}
	}
}

func TestMayLists(t *testing.T) { // P1302, W4: each bit of mode is asked of the user's grant, or else of that of `*`
	for own := range 8 {
		for every := range 8 {
			var list []api.Grant
			if every > 0 {
				list = append(list, grant("*", every))
			}
			list = append(list, grant("aa", 7)) // beside ann's
			if own > 0 {
				list = append(list, grant("ann", own))
			}
			list = append(list, grant("annn", 7))
			l := []api.Node{dir("/", bottom(), list...), seg("/s", bottom(), list...)}
			if e := tree.Check(l); e != api.OK {
				t.Fatalf("the test is wrong: %v", e)
			}
			anns := own
			if own == 0 {
				anns = every
			}
			for user, has := range map[string]int{"ann": anns, "bob": every, "an": every, "aa": 7, "annn": 7, "": every, "*": every, "Ann": every, "ann ": every, "no name": every} {
				for mode := 1; mode <= 7; mode++ {
					want := api.ErrAcl
					if mode&has == mode {
						want = api.OK
					}
					for i, p := range []string{"/", "/s"} {
						n, e := monitor.May(l, sub(user, bottom()), p, mode)
						if e != want || e == api.OK && !node.Same(n, l[i]) || e != api.OK && !node.Same(n, api.Node{}) {
							t.Errorf("P1302: May(%q of %v, %q, %d): %v, not %v", user, list, p, mode, e, want)
						}
					}
				}
			}
		}
	}
}

func TestMayOfNoList(t *testing.T) { // P1302, P2
	for _, list := range [][]api.Grant{nil, {}, make([]api.Grant, 0, 4), make([]api.Grant, 4)[:0]} {
		l := []api.Node{dir("/", bottom(), list...), dir("/a", high(), list...)}
		for mode := 1; mode <= 7; mode++ {
			for _, user := range []string{"ann", "*", ""} {
				if got := told(monitor.May(l, sub(user, bottom()), "/", mode)); !got.same(answer{e: api.ErrAcl}) {
					t.Errorf("P1302: May(/, %d) of no list: %+v", mode, got)
				}
				if got := told(monitor.May(l, sub(user, bottom()), "/a", mode)); !got.same(answer{e: api.ErrLabel}) {
					t.Errorf("P6: May(/a, %d) of no list, from below: %+v", mode, got)
				}
			}
		}
	}
}

func TestMayAsksNoListOnTheWay(t *testing.T) { // P1302: labels alone are asked there
	l := []api.Node{dir("/", bottom()), dir("/a", high(), grant("bob", 7)), dir("/a/b", high()), seg("/a/b/c", high(), grant("ann", 7))}
	for mode := 1; mode <= 7; mode++ {
		if got := told(monitor.May(l, sub("ann", high()), "/a/b/c", mode)); !got.same(answer{n: l[3]}) {
			t.Errorf("P1302: May(/a/b/c, %d): %+v", mode, got)
		}
	}
}

func TestMayAsksNoRings(t *testing.T) { // P1302: brackets are the processor's
	for _, r := range []api.Rings{{}, {R1: 7, R2: 7, R3: 7}, {R1: 4, R2: 4, R3: 4}, {R1: 0, R2: 7, R3: 7, Gates: 16}} {
		n := seg("/s", bottom(), grant("*", 7))
		n.Rings = r
		if got := told(monitor.May([]api.Node{dir("/", bottom()), n}, sub("ann", bottom()), "/s", 7)); !got.same(answer{n: n}) {
			t.Errorf("P1302: May(/s, 7) with %v: %+v", r, got)
		}
	}
}

func TestMayOrder(t *testing.T) { // P1302, P6
	for _, x := range []struct {
		s    monitor.Subject
		p    string
		mode int
		want api.Errno
	}{
		// See's error ahead of labels and lists
		{sub("bob", high()), "/h/no", 2, api.ErrNone}, {sub("bob", high()), "/h/s/x", 7, api.ErrKind}, {sub("bob", high()), "/no/x", 4, api.ErrNone}, {sub("bob", bottom()), "/h/s", 4, api.ErrLabel}, {sub("bob", bottom()), "/low/x", 2, api.ErrKind},
		// labels ahead of lists
		{sub("bob", bottom()), "/h", 2, api.ErrLabel}, {sub("ann", high()), "/low", 3, api.ErrLabel}, {sub("bob", high()), "/none", 2, api.ErrLabel}, {sub("bob", high()), "/low", 7, api.ErrLabel}, {sub("bob", high()), "/none", 7, api.ErrLabel}, {sub("bob", higher()), "/h/s", 6, api.ErrLabel},
		// lists, where labels allow it
		{sub("bob", high()), "/low", 4, api.ErrAcl}, {sub("ann", high()), "/low", 1, api.ErrAcl}, {sub("bob", high()), "/none", 5, api.ErrAcl}, {sub("bob", higher()), "/h/s", 1, api.ErrAcl}, {sub("bob", high()), "/h", 7, api.ErrAcl}, {sub("bob", bottom()), "/low", 3, api.ErrAcl}, {sub("ann", bottom()), "/low", 3, api.ErrAcl},
		// and neither
		{sub("bob", high()), "/low", 1, api.OK}, {sub("ann", higher()), "/h/s", 1, api.OK}, {sub("ann", high()), "/h/s", 3, api.OK}, {sub("bob", top()), "/h", 5, api.OK}, {sub("ann", bottom()), "/low", 2, api.OK}, {sub("bob", bottom()), "/", 7, api.OK},
	} {
		n, e := monitor.May(some(), x.s, x.p, x.mode)
		want := api.Node{}
		if x.want == api.OK {
			want, _ = find(some(), x.p)
		}
		if e != x.want || !node.Same(n, want) {
			t.Errorf("P1302: May(%+v, %q, %d): %+v, %v, not %v", x.s, x.p, x.mode, n, e, x.want)
		}
	}
}

func TestChange(t *testing.T) { // P1303, P4, P6
	for _, x := range []struct {
		s    monitor.Subject
		p    string
		want api.Errno
		in   string
	}{
		{sub("ann", bottom()), "/x", api.OK, "/"}, {sub("ann", bottom()), "/low", api.OK, "/"}, {sub("bob", bottom()), "/h", api.OK, "/"}, {sub("ann", high()), "/h/x", api.OK, "/h"}, {sub("ann", high()), "/h/s", api.OK, "/h"}, {sub("ann", high()), "/h/t", api.OK, "/h"}, {sub("bob", higher()), "/h/t/x", api.OK, "/h/t"}, {sub("", top()), "/h/t/v/w", api.OK, "/h/t/v"},
		// what is / itself
		{sub("ann", bottom()), "/", api.ErrArg, ""}, {sub("ann", high()), "/", api.ErrArg, ""},
		// the parent may not be written: by labels, by its list
		{sub("ann", high()), "/x", api.ErrLabel, ""}, {sub("ann", high()), "/low", api.ErrLabel, ""}, {sub("ann", bottom()), "/h/x", api.ErrLabel, ""}, {sub("ann", bottom()), "/h/s", api.ErrLabel, ""}, {sub("ann", higher()), "/h/s", api.ErrLabel, ""}, {sub("ann", aside()), "/h/s", api.ErrLabel, ""}, {sub("ann", bottom()), "/h/t/x", api.ErrLabel, ""}, {sub("ann", high()), "/none/x", api.ErrLabel, ""},
		{sub("bob", high()), "/h/x", api.ErrAcl, ""}, {sub("bob", high()), "/h/s", api.ErrAcl, ""}, {sub("ann", bottom()), "/none/x", api.ErrAcl, ""}, {sub("ann", bottom()), "/none/y", api.ErrAcl, ""},
		// the parent is not there
		{sub("ann", bottom()), "/no/x", api.ErrNone, ""}, {sub("ann", bottom()), "/no/x/y", api.ErrNone, ""}, {sub("ann", high()), "/h/no/x", api.ErrNone, ""}, {sub("ann", bottom()), "/h/no/x", api.ErrLabel, ""},
		// it is a segment: asked behind its label and its list
		{sub("ann", bottom()), "/low/x", api.ErrKind, ""}, {sub("ann", high()), "/h/s/x", api.ErrKind, ""}, {sub("bob", bottom()), "/none/x/y", api.ErrKind, ""}, {sub("bob", bottom()), "/low/x", api.ErrAcl, ""}, {sub("bob", high()), "/h/s/x", api.ErrAcl, ""}, {sub("ann", high()), "/low/x", api.ErrLabel, ""}, {sub("ann", higher()), "/h/s/x", api.ErrLabel, ""},
		// one farther up is a segment
		{sub("ann", bottom()), "/low/x/y", api.ErrKind, ""}, {sub("bob", high()), "/h/s/x/y", api.ErrKind, ""}, {sub("bob", high()), "/low/x/y/z", api.ErrKind, ""},
	} {
		n, e := monitor.Change(some(), x.s, x.p)
		want, _ := find(some(), x.in)
		if e != x.want || !node.Same(n, want) {
			t.Errorf("P1303: Change(%+v, %q): %+v, %v, not %q, %v", x.s, x.p, n, e, x.in, x.want)
		}
	}
}

func TestChangeAsksNotThePathsOwnNode(t *testing.T) { // P1303: whether it is there, and what it is, does not matter
	for _, up := range lattice() {
		for _, list := range [][]api.Grant{nil, {grant("*", 2)}, {grant("*", 5)}, {grant("ann", 7)}, {grant("*", 7), grant("ann", 5)}} {
			without := []api.Node{dir("/", bottom(), grant("*", 7)), dir("/d", up, list...)}
			for _, at := range lattice() {
				s := sub("ann", at)
				want := told(wantChange(without, s, "/d/x"))
				for _, n := range []api.Node{seg("/d/x", up), seg("/d/x", up, grant("*", 7)), dir("/d/x", up, grant("ann", 2)), dir("/d/x", label.Join(up, higher())), dir("/d/x", top(), grant("*", 7)), seg("/d/y", up, grant("*", 7))} {
					with := append(slices.Clone(without), n)
					if e := tree.Check(with); e != api.OK {
						t.Fatalf("the test is wrong: %v", e)
					}
					if got := told(monitor.Change(with, s, "/d/x")); !got.same(want) {
						t.Fatalf("P1303: Change(/d/x) in %v, from %v, with %+v: %+v, not %+v", without[1], at, n, got, want)
					}
				}
				if got := told(monitor.Change(without, s, "/d/x")); !got.same(want) {
					t.Fatalf("P1303: Change(/d/x) in %v, from %v: %+v, not %+v", without[1], at, got, want)
				}
			}
		}
	}
}

// dice makes trees, subjects and paths; the same in each run.
type dice struct{ *rand.Rand }

func oneOf[T any](d dice, l ...T) T { return l[d.IntN(len(l))] }

func (d dice) label() api.Label {
	return oneOf(d, bottom(), bottom(), bottom(), high(), high(), higher(), aside(), top())
}

func (d dice) name() string { return oneOf(d, "a", "b", "a0", "ab") }

func (d dice) list() []api.Grant {
	var out []api.Grant
	for _, user := range []string{"*", "ann", "bob"} {
		if d.IntN(2) == 0 {
			out = append(out, grant(user, oneOf(d, 7, 7, 1+d.IntN(7))))
		}
	}
	return out
}

func (d dice) subject() monitor.Subject {
	return sub(oneOf(d, "ann", "bob", "carl", "*", ""), d.label())
}

func (d dice) path() string {
	p := "/"
	for range d.IntN(5) {
		p = path.Join(p, d.name())
	}
	if d.IntN(30) == 0 {
		p = oneOf(d, "", "a", p+"/", strings.Repeat("/a", 7), strings.Repeat("/a", 40))
	}
	return p
}

// grow puts nodes in those directories of a tree that it is asked for, and in what it has put there.
func (d dice) grow(l []api.Node, count int, in func(up api.Node) bool) []api.Node {
	for range count {
		up := l[d.IntN(len(l))]
		n := seg(path.Join(up.Path, d.name()), up.Label, d.list()...)
		if d.IntN(3) > 0 {
			n = dir(n.Path, label.Join(up.Label, d.label()), d.list()...)
		}
		if _, is := find(l, n.Path); !is && up.Dir && in(up) && path.Check(n.Path) == api.OK {
			l = tree.Put(l, n)
		}
	}
	return l
}

func (d dice) tree() []api.Node {
	return d.grow([]api.Node{dir("/", bottom(), d.list()...)}, d.IntN(40), func(api.Node) bool { return true })
}

func TestManyDecisions(t *testing.T) { // P1301, P1302, P1303, P4, P6
	d := dice{rand.New(rand.NewPCG(13, 1301))}
	seen := map[string]map[api.Errno]int{"See": {}, "May": {}, "Change": {}}
	for range 3000 {
		l := d.tree()
		if e := tree.Check(l); e != api.OK {
			t.Fatalf("the test is wrong: %v: %+v", e, l)
		}
		for range 20 {
			s, p := d.subject(), d.path()
			if d.IntN(3) > 0 {
				p = l[d.IntN(len(l))].Path
			}
			hold(t, l, s, p)
			_, see := wantSee(l, s, p)
			_, may := wantMay(l, s, p, 1+d.IntN(7))
			_, change := wantChange(l, s, p)
			seen["See"][see]++
			seen["May"][may]++
			seen["Change"][change]++
		}
	}
	for call, wanted := range map[string][]api.Errno{"See": {api.OK, api.ErrArg, api.ErrLong, api.ErrNone, api.ErrKind, api.ErrLabel}, "May": {api.OK, api.ErrArg, api.ErrNone, api.ErrKind, api.ErrLabel, api.ErrAcl}, "Change": {api.OK, api.ErrArg, api.ErrLong, api.ErrNone, api.ErrKind, api.ErrLabel, api.ErrAcl}} {
		for _, e := range wanted {
			if seen[call][e] < 50 {
				t.Errorf("the test is weak: %s told %v only %d times", call, e, seen[call][e])
			}
		}
	}
}

func TestWhoMayIsOverOrAtTheVeryLabel(t *testing.T) { // P1304, T2
	d := dice{rand.New(rand.NewPCG(13, 1304))}
	reads, writes, changes := 0, 0, 0
	for range 3000 {
		l := d.tree()
		for range 20 {
			s, p, mode := d.subject(), l[d.IntN(len(l))].Path, 1+d.IntN(7)
			n, e := monitor.May(l, s, p, mode)
			if e == api.OK {
				for _, up := range way(p) {
					if above, _ := find(l, up); !over(s.Label, above.Label) {
						t.Fatalf("P1304: %+v may use %q by %d, in %q at %v", s, p, mode, up, above.Label)
					}
				}
				if mode&5 != 0 && !over(s.Label, n.Label) || mode&2 != 0 && s.Label != n.Label || modesOf(n.Acl, s.User)&mode != mode {
					t.Fatalf("P1304: %+v may use %+v by %d", s, n, mode)
				}
			}
			if e == api.OK && mode&2 != 0 {
				writes++
			} else if e == api.OK && s.Label != n.Label {
				reads++
			}
			if up, e := monitor.Change(l, s, p); e == api.OK {
				changes++
				if s.Label != up.Label || !up.Dir || modesOf(up.Acl, s.User)&2 == 0 || up.Path != path.Parent(p) {
					t.Fatalf("P1304: %+v may change %q in %+v", s, p, up)
				}
			}
		}
	}
	if reads < 500 || writes < 500 || changes < 500 {
		t.Errorf("the test is weak: %d, %d, %d", reads, writes, changes)
	}
}

// hidden tells whether a path lies in a directory of a tree that a label is not over, however far down.
func hidden(l []api.Node, at api.Label, p string) bool {
	for _, up := range way(p) {
		if n, is := find(l, up); is && !over(at, n.Label) {
			return true
		}
	}
	return false
}

// sameAnswers holds all answers of two trees against each other.
func sameAnswers(t *testing.T, a, b []api.Node, s monitor.Subject, p string) {
	t.Helper()
	if x, y := told(monitor.See(a, s, p)), told(monitor.See(b, s, p)); !x.same(y) {
		t.Fatalf("P1304: See(%+v, %q): %+v; with other nodes that it may not know of: %+v", s, p, x, y)
	}
	for mode := 0; mode <= 8; mode++ {
		if x, y := told(monitor.May(a, s, p, mode)), told(monitor.May(b, s, p, mode)); !x.same(y) {
			t.Fatalf("P1304: May(%+v, %q, %d): %+v; with other nodes that it may not know of: %+v", s, p, mode, x, y)
		}
	}
	if x, y := told(monitor.Change(a, s, p)), told(monitor.Change(b, s, p)); !x.same(y) {
		t.Fatalf("P1304: Change(%+v, %q): %+v; with other nodes that it may not know of: %+v", s, p, x, y)
	}
}

func TestWhatIsHiddenChangesNoAnswer(t *testing.T) { // P1304
	d := dice{rand.New(rand.NewPCG(13, 13))}
	dropped, put := 0, 0
	for range 400 {
		l, s := d.tree(), d.subject()
		bare := slices.DeleteFunc(slices.Clone(l), func(n api.Node) bool { return hidden(l, s.Label, n.Path) })
		other := d.grow(bare, 20, func(up api.Node) bool { return !over(s.Label, up.Label) })
		for _, m := range [][]api.Node{bare, other} {
			if e := tree.Check(m); e != api.OK {
				t.Fatalf("the test is wrong: %v: %+v", e, m)
			}
		}
		dropped, put = dropped+len(l)-len(bare), put+len(other)-len(bare)
		asked := []string{"/", "/a", "/a/b/ab", d.path(), d.path(), d.path()}
		for _, n := range append(slices.Clone(l), other...) {
			asked = append(asked, n.Path, path.Join(n.Path, "a"), path.Join(n.Path, "new"), n.Path+"/")
		}
		for _, p := range asked {
			sameAnswers(t, l, bare, s, p)
			sameAnswers(t, other, bare, s, p)
		}
	}
	if dropped < 1000 || put < 1000 {
		t.Errorf("the test is weak: %d nodes dropped, %d put", dropped, put)
	}
}

// memory is all that a list of nodes has, its spare room too.
type memory struct {
	nodes []api.Node
	acls  [][]api.Grant
	words [][]int64
}

// roomy is a list with spare room everywhere, and all of its memory.
func roomy(l []api.Node) (in []api.Node, all memory) {
	for _, n := range l {
		acl := append(slices.Clone(n.Acl), slices.Repeat([]api.Grant{grant("spare", 77)}, 3)...)
		words := append(slices.Clone(n.Words), -77, -77, -77)
		all.acls, all.words = append(all.acls, acl), append(all.words, words)
		n.Acl, n.Words = acl[:len(n.Acl)], words[:len(n.Words)]
		all.nodes = append(all.nodes, n)
	}
	all.nodes = append(all.nodes, slices.Repeat([]api.Node{{Path: "/spare", Words: []int64{7}}}, 3)...)
	return all.nodes[:len(l)], all
}

func (m memory) clone() memory {
	out := memory{nodes: deep(m.nodes)}
	for i := range m.acls {
		out.acls, out.words = append(out.acls, slices.Clone(m.acls[i])), append(out.words, slices.Clone(m.words[i]))
	}
	return out
}

func (m memory) same(o memory) bool {
	return slices.EqualFunc(m.nodes, o.nodes, node.Same) && slices.EqualFunc(m.acls, o.acls, slices.Equal[[]api.Grant]) && slices.EqualFunc(m.words, o.words, slices.Equal[[]int64])
}

// deep is a list with memory of its own, all through.
func deep(l []api.Node) []api.Node {
	var out []api.Node
	for _, n := range l {
		n.Acl, n.Words = slices.Clone(n.Acl), slices.Clone(n.Words)
		out = append(out, n)
	}
	return out
}

// scrawl writes over all memory of a node's lists, their spare room too.
func scrawl(n api.Node) {
	for i := range n.Acl[:cap(n.Acl)] {
		n.Acl[:cap(n.Acl)][i] = grant("scrawl", 99)
	}
	for i := range n.Words[:cap(n.Words)] {
		n.Words[:cap(n.Words)][i] = -99
	}
}

func TestMemory(t *testing.T) { // P2, P3
	for _, p := range []string{"/", "/h", "/h/s", "/h/t", "/h/t/u", "/low", "/none/x", "/h/no", "/low/x", "/no/x", "", "/h/"} {
		for _, s := range []monitor.Subject{sub("ann", bottom()), sub("ann", high()), sub("bob", high()), sub("bob", higher())} {
			l, all := roomy(some())
			was := all.clone()
			ask := func() []answer {
				out := []answer{told(monitor.See(l, s, p)), told(monitor.Change(l, s, p))}
				for mode := range 9 {
					out = append(out, told(monitor.May(l, s, p, mode)))
				}
				return out
			}
			first, second := ask(), ask()
			kept := []answer{}
			for i, a := range first {
				if !a.same(second[i]) {
					t.Fatalf("P3: of %q: %+v, then %+v", p, a, second[i])
				}
				kept = append(kept, answer{deep([]api.Node{a.n})[0], a.e})
			}
			for i, a := range second {
				scrawl(a.n)
				if !slices.EqualFunc(first, kept, answer.same) {
					t.Fatalf("P2: of %q: answer %d shares memory with another one", p, i)
				}
				if i+1 < len(second) && !slices.EqualFunc(second[i+1:], kept[i+1:], answer.same) {
					t.Fatalf("P2: of %q: answer %d shares memory with a later one", p, i)
				}
			}
			if !all.same(was) {
				t.Fatalf("P2: of %q: what was handed in is changed", p)
			}
			for i := range l {
				scrawl(l[i])
				l[i] = api.Node{Path: "scrawl"}
			}
			if !slices.EqualFunc(first, kept, answer.same) {
				t.Fatalf("P2: of %q: what was told is changed by a change of what was handed in", p)
			}
		}
	}
}

func TestToldNodeIsWhole(t *testing.T) { // P1301, P1302, P1303: with its list, its rings, its words, and whose share it is of
	want := seg("/h/s", high(), grant("ann", 3))
	for _, got := range []answer{told(monitor.See(some(), sub("ann", high()), "/h/s")), told(monitor.May(some(), sub("ann", high()), "/h/s", 3))} {
		n := got.n
		if got.e != api.OK || n.Path != want.Path || n.Dir || n.Label != want.Label || n.By != want.By || n.Rings != want.Rings || !slices.Equal(n.Acl, want.Acl) || !slices.Equal(n.Words, want.Words) {
			t.Errorf("P1301: %+v, not %+v", got, want)
		}
	}
	n, e := monitor.Change(some(), sub("ann", high()), "/h/s")
	if e != api.OK || n.Path != "/h" || !n.Dir || n.Label != high() || n.By != high() || n.Rings != (api.Rings{}) || len(n.Words) != 0 || !slices.Equal(n.Acl, []api.Grant{grant("*", 5), grant("ann", 7)}) {
		t.Errorf("P1303: %+v, %v", n, e)
	}
}

func TestWhatMayNotBe(t *testing.T) { // P1, P2, P4, P8: no panic, an end, nothing changed, and zero values beside an error
	d := dice{rand.New(rand.NewPCG(13, 8))}
	texts := []string{"", "/", "//", "/a", "/a/b", "/a/b/c", "a", "/A", "/a-b", "/\xff", strings.Repeat("/a", 7), strings.Repeat("/", 100)}
	odd := func() api.Label {
		return oneOf(d, bottom(), top(), lab(4, 0, 0, 0), lab(-1, -1, -1, -1), lab(math.MaxInt, math.MinInt, math.MaxInt, math.MinInt))
	}
	for range 20000 {
		var l []api.Node
		for range d.IntN(8) {
			n := api.Node{Path: oneOf(d, texts...), Dir: d.IntN(3) > 0, Label: odd(), Words: make([]int64, d.IntN(30))}
			for range d.IntN(7) {
				n.Acl = append(n.Acl, grant(oneOf(d, texts...), d.IntN(20)-9))
			}
			l = append(l, n)
		}
		l, all := roomy(l)
		was := all.clone()
		s, p, mode := sub(oneOf(d, texts...), odd()), oneOf(d, texts...), d.IntN(12)-2
		for _, got := range []answer{told(monitor.See(l, s, p)), told(monitor.May(l, s, p, mode)), told(monitor.Change(l, s, p))} {
			if got.e != api.OK && !node.Same(got.n, api.Node{}) {
				t.Fatalf("P4: of %q: %+v", p, got)
			}
			scrawl(got.n)
		}
		if !all.same(was) {
			t.Fatalf("P2: what was handed in is changed: %+v", l)
		}
	}
	huge := strings.Repeat("/abc", 1<<20)
	s := sub(huge, bottom())
	for _, l := range [][]api.Node{nil, {}, make([]api.Node, 1<<12), some()} {
		if got := told(monitor.See(l, s, huge)); !got.same(answer{e: api.ErrLong}) {
			t.Errorf("P1301: See of a path of %d bytes: %+v", len(huge), got)
		}
		if got := told(monitor.Change(l, s, huge)); !got.same(answer{e: api.ErrLong}) {
			t.Errorf("P1303: Change of a path of %d bytes: %+v", len(huge), got)
		}
		monitor.May(l, s, "/h/s", 1)
	}
}

func TestNoNodes(t *testing.T) { // P1301, P2: where not even / is there, it is told so; no list and an empty one are the same
	for _, l := range [][]api.Node{nil, {}, make([]api.Node, 0, 3), some()[:0]} {
		for _, p := range []string{"/", "/h", "/h/s"} {
			s := sub("ann", bottom())
			if got := told(monitor.See(l, s, p)); !got.same(answer{e: api.ErrNone}) {
				t.Errorf("P1301: See(%q) of no nodes: %+v", p, got)
			}
			if got := told(monitor.May(l, s, p, 7)); !got.same(answer{e: api.ErrNone}) {
				t.Errorf("P1302: May(%q) of no nodes: %+v", p, got)
			}
		}
		if got := told(monitor.Change(l, sub("ann", bottom()), "/h")); !got.same(answer{e: api.ErrNone}) {
			t.Errorf("P1303: Change(/h) of no nodes: %+v", got)
		}
	}
}
