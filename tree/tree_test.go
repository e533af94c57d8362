package tree_test

import (
	"fmt"
	"math"
	"math/rand/v2"
	"reflect"
	"slices"
	"strings"
	"testing"

	"donjon/api"
	"donjon/label"
	"donjon/node"
	"donjon/path"
	"donjon/tree"
	"donjon/user"
)

func lab(sec, secCats, integ, intCats int) api.Label {
	return api.Label{Sec: sec, SecCats: secCats, Int: integ, IntCats: intCats}
}

func bottom() api.Label { return lab(0, 0, 3, 255) }

// high and higher are over bottom, higher over high; aside is over bottom alone.
func high() api.Label { return lab(1, 1, 3, 255) }

func higher() api.Label { return lab(2, 5, 2, 127) }

func aside() api.Label { return lab(1, 2, 3, 255) }

// noLabel is one that may not be.
func noLabel() api.Label { return lab(4, 0, 0, 0) }

func dir(p string, at api.Label) api.Node {
	return api.Node{Path: p, Dir: true, Label: at, By: high(), Acl: []api.Grant{{User: "*", Modes: 1}, {User: "ann", Modes: 7}}}
}

func seg(p string, at api.Label) api.Node {
	return api.Node{Path: p, Label: at, By: bottom(), Acl: []api.Grant{{User: "bob", Modes: 3}}, Rings: api.Rings{R1: 1, R2: 3, R3: 5, Gates: 2}, Words: []int64{int64(len(p)), -2, math.MaxInt64}}
}

// some is a tree with nodes under each of several directories, and paths that are fronts of others' bytes.
func some() []api.Node {
	return []api.Node{
		dir("/", bottom()),
		dir("/a", bottom()),
		seg("/a/b", bottom()),
		dir("/a/b0", high()),
		seg("/a/b0/x", high()),
		dir("/a/b0/y", higher()),
		seg("/a/b0/y/z", higher()),
		seg("/a/c", bottom()),
		seg("/a0", bottom()),
		dir("/ab", bottom()),
		seg("/ab/b", bottom()),
		dir("/b", aside()),
		seg("/c", bottom()),
	}
}

// fronts has paths of which one is the front of another one's bytes, with a byte that is less than that of the names' front: it stands by its Paths, but is no tree.
func fronts() []api.Node {
	return []api.Node{dir("/", bottom()), dir("/a", bottom()), seg("/a-b", bottom()), seg("/a/b", bottom()), dir("/ab", bottom()), seg("/ab/b", bottom())}
}

func pathsOf(l []api.Node) []string {
	var out []string
	for _, n := range l {
		out = append(out, n.Path)
	}
	return out
}

// sameAll tells whether two lists are of the same nodes.
func sameAll(a, b []api.Node) bool { return slices.EqualFunc(a, b, node.Same) }

// deep is a list with memory of its own, all through.
func deep(l []api.Node) []api.Node {
	var out []api.Node
	for _, n := range l {
		n.Acl, n.Words = slices.Clone(n.Acl), slices.Clone(n.Words)
		out = append(out, n)
	}
	return out
}

func byPath(a, b api.Node) int { return strings.Compare(a.Path, b.Path) }

func TestCheckAllows(t *testing.T) { // P1101
	for i, l := range [][]api.Node{
		some(), some()[:1], some()[:2], some()[:3], some()[:9],
		{{Path: "/", Dir: true, Label: bottom()}},
		{{Path: "/", Dir: true, Label: bottom()}, {Path: "/a", Label: bottom()}},
		{dir("/", bottom()), dir("/a", lab(3, 255, 0, 0))},
		{dir("/", bottom()), dir("/a", bottom()), dir("/a/a", bottom()), dir("/a/a/a", bottom()), dir("/a/a/a/a", high()), dir("/a/a/a/a/a", high()), seg("/a/a/a/a/a/a", high())},
		{dir("/", bottom()), dir("/abcdefghij01", high()), seg("/abcdefghij01/abcdefghij01", high())},
		{dir("/", bottom()), dir("/0", high()), dir("/1", aside()), dir("/2", higher())}, // beside each other labels need not rise
	} {
		if e := tree.Check(l); e != api.OK {
			t.Errorf("P1101: %d: Check of %q: %v", i, pathsOf(l), e)
		}
	}
	var wide []api.Node // as many as one likes: shares are asked elsewhere
	wide = append(wide, dir("/", bottom()))
	for i := range 2000 {
		wide = append(wide, seg(fmt.Sprintf("/n%04d", i), bottom()))
	}
	if e := tree.Check(wide); e != api.OK {
		t.Errorf("P1101: Check of %d nodes: %v", len(wide), e)
	}
}

func TestCheckEachNode(t *testing.T) { // P1101: node.Check's error, whichever node has it
	for i := range some() {
		for _, spoil := range []func(n *api.Node){
			func(n *api.Node) { n.Path = "" },
			func(n *api.Node) { n.Path = strings.Repeat("/abcdefghij01", 7) },
			func(n *api.Node) { n.Path = "/" + n.Path },
			func(n *api.Node) { n.Path += "/" },
			func(n *api.Node) { n.Path = "/A" },
			func(n *api.Node) { n.Label = noLabel() },
			func(n *api.Node) { n.By = noLabel() },
			func(n *api.Node) { n.Acl = make([]api.Grant, 5) },
			func(n *api.Node) { n.Acl = make([]api.Grant, 4) },
			func(n *api.Node) { n.Rings = api.Rings{R1: 8} },
			func(n *api.Node) { n.Words = make([]int64, 17) },
		} {
			l := some()
			spoil(&l[i])
			want := node.Check(l[i])
			if want == api.OK {
				t.Fatalf("the test's node %d is not spoiled: %+v", i, l[i])
			}
			if e := tree.Check(l); e != want {
				t.Errorf("P1101: Check with %+v: %v, not %v", l[i], e, want)
			}
		}
	}
	l := some()
	l[0].Dir = false
	if e := tree.Check(l); e != api.ErrKind {
		t.Errorf("P1101: Check of a `/` that is a segment: %v", e)
	}
}

func TestCheckPathsRise(t *testing.T) { // P1101
	for i := 1; i < len(some()); i++ {
		l := some()
		l[i-1], l[i] = l[i], l[i-1]
		if e := tree.Check(l); e != api.ErrArg {
			t.Errorf("P1101: Check with %q ahead of %q: %v", l[i-1].Path, l[i].Path, e)
		}
	}
	for i := range some() {
		l := slices.Insert(some(), i, some()[i])
		if e := tree.Check(l); e != api.ErrArg {
			t.Errorf("P1101: Check with %q twice: %v", l[i].Path, e)
		}
	}
	for _, l := range [][]api.Node{
		{dir("/", bottom()), dir("/", bottom())},
		{dir("/a", bottom()), dir("/", bottom())},
		{dir("/", bottom()), dir("/a", bottom()), seg("/a0", bottom()), seg("/a/b", bottom())}, // a name's byte is behind that of `/`
		{dir("/", bottom()), dir("/b", bottom()), dir("/a", bottom()), dir("/c", bottom())},
		{dir("/", bottom()), seg("/n10", bottom()), seg("/n9", bottom()), seg("/n11", bottom())},
		fronts(),
	} {
		if e := tree.Check(l); e != api.ErrArg {
			t.Errorf("P1101: Check of %q: %v", pathsOf(l), e)
		}
	}
}

func TestCheckRootAndParents(t *testing.T) { // P1101, P2
	for _, l := range [][]api.Node{nil, {}, make([]api.Node, 0, 4), some()[1:], some()[2:], some()[12:]} {
		if e := tree.Check(l); e != api.ErrNone {
			t.Errorf("P1101: Check without a `/`: %v", e)
		}
	}
	for i, n := range some() {
		has := slices.ContainsFunc(some(), func(m api.Node) bool { return path.Parent(m.Path) == n.Path })
		l := slices.Delete(some(), i, i+1)
		want := api.OK
		if has {
			want = api.ErrNone
		}
		if e := tree.Check(l); e != want {
			t.Errorf("P1101: Check without %q: %v, not %v", n.Path, e, want)
		}
		if i == 0 {
			continue
		}
		l = some()
		l[i] = seg(n.Path, l[slices.IndexFunc(l, func(m api.Node) bool { return m.Path == path.Parent(n.Path) })].Label)
		if has {
			want = api.ErrKind
		}
		if e := tree.Check(l); e != want {
			t.Errorf("P1101: Check with a segment %q: %v, not %v", n.Path, e, want)
		}
	}
	l := []api.Node{dir("/", bottom()), dir("/a", bottom()), seg("/a/b/c", bottom())} // one farther up is not enough
	if e := tree.Check(l); e != api.ErrNone {
		t.Errorf("P1101: Check of %q: %v", pathsOf(l), e)
	}
	l = []api.Node{dir("/", bottom()), dir("/a", bottom()), seg("/ab/c", bottom())} // nor a front of its bytes
	if e := tree.Check(l); e != api.ErrNone {
		t.Errorf("P1101: Check of %q: %v", pathsOf(l), e)
	}
}

func TestCheckLabels(t *testing.T) { // P1101, W3
	all := []api.Label{bottom(), high(), higher(), aside(), {}, lab(3, 255, 0, 0), lab(0, 0, 3, 254), lab(0, 0, 2, 255), lab(0, 1, 3, 255), lab(1, 0, 3, 255)}
	for _, up := range all {
		for _, at := range all {
			want := api.ErrLabel
			if label.Over(at, up) {
				want = api.OK
			}
			l := []api.Node{dir("/", bottom()), dir("/a", up), dir("/a/b", at)}
			if e := tree.Check(l); e != want {
				t.Errorf("P1101: Check of a directory at %v in one at %v: %v", at, up, e)
			}
			want = api.ErrLabel
			if at == up {
				want = api.OK
			}
			l[2] = seg("/a/b", at)
			if e := tree.Check(l); e != want {
				t.Errorf("P1101: Check of a segment at %v in a directory at %v: %v", at, up, e)
			}
		}
		want := api.ErrLabel
		if up == bottom() {
			want = api.OK
		}
		for _, l := range [][]api.Node{{dir("/", up)}, {dir("/", up), dir("/a", up)}, {dir("/", up), seg("/a", up)}, {dir("/", up), dir("/a", lab(3, 255, 0, 0))}} {
			if e := tree.Check(l); e != want {
				t.Errorf("P1101: Check of a `/` at %v: %v", up, e)
			}
		}
		if e := tree.Check([]api.Node{dir("/", bottom()), dir("/a", up), seg("/a/b", up)}); e != api.OK {
			t.Errorf("P1101: Check of nodes at %v: %v", up, e)
		}
		l := []api.Node{dir("/", bottom()), dir("/a", up)}
		l[0].By, l[1].By = up, bottom() // whose share it is of is not asked
		if e := tree.Check(l); e != api.OK {
			t.Errorf("P1101: Check with a By of %v: %v", up, e)
		}
	}
}

func TestCheckOrder(t *testing.T) { // P6
	tooMany := func(p string) api.Node { n := seg(p, bottom()); n.Words = make([]int64, 17); return n }
	bad := func(p string) api.Node { n := dir(p, bottom()); n.Words = make([]int64, 1); return n }
	none := func(p string) api.Node { return seg(p, bottom()) }
	for i, x := range []struct {
		l    []api.Node
		want api.Errno
	}{
		// of one node: node.Check's error ahead of ErrArg
		{[]api.Node{dir("/", bottom()), dir("/b", bottom()), tooMany("/a")}, api.ErrMany},
		{[]api.Node{dir("/", bottom()), bad("/")}, api.ErrBad},
		{[]api.Node{dir("/", bottom()), dir("/a", bottom()), tooMany("/a")}, api.ErrMany},
		{[]api.Node{dir("/", bottom()), seg("/", bottom())}, api.ErrKind},
		// of several: that of the first one, whichever it is
		{[]api.Node{dir("/", bottom()), dir("/b", bottom()), dir("/a", bottom()), tooMany("/c")}, api.ErrArg},
		{[]api.Node{dir("/", bottom()), dir("/", bottom()), bad("/c")}, api.ErrArg},
		{[]api.Node{dir("/", bottom()), tooMany("/b"), dir("/a", bottom()), bad("/c")}, api.ErrMany},
		{[]api.Node{dir("/", bottom()), bad("/b"), tooMany("/c"), dir("/a", bottom())}, api.ErrBad},
		{[]api.Node{dir("/", bottom()), seg("/a", noLabel()), tooMany("/b")}, api.ErrArg},
		// these ahead of all that is asked of the tree
		{[]api.Node{none("/a/b"), tooMany("/c")}, api.ErrMany},
		{[]api.Node{none("/b"), none("/a")}, api.ErrArg},
		{[]api.Node{dir("/", high()), none("/a/b"), none("/a/b")}, api.ErrArg},
		{[]api.Node{dir("/", high()), none("/a/b"), bad("/b")}, api.ErrBad},
		{[]api.Node{dir("/", bottom()), seg("/a", bottom()), none("/a/b"), tooMany("/b")}, api.ErrMany},
		{[]api.Node{dir("/", bottom()), seg("/a", high()), none("/b"), bad("/c")}, api.ErrBad},
		// no `/` ahead of what is asked of each
		{[]api.Node{seg("/a", high()), seg("/a/b", bottom())}, api.ErrNone},
		{[]api.Node{dir("/a", high()), dir("/a/b", bottom())}, api.ErrNone},
		{[]api.Node{seg("/a", bottom()), seg("/a/b", high())}, api.ErrNone},
		// of one node: its parent's kind ahead of labels
		{[]api.Node{dir("/", bottom()), seg("/a", bottom()), seg("/a/b", high())}, api.ErrKind},
		{[]api.Node{dir("/", bottom()), seg("/a", bottom()), dir("/a/b", high())}, api.ErrKind},
		// of several: that of the first one
		{[]api.Node{dir("/", bottom()), seg("/a", high()), none("/b/c")}, api.ErrLabel},
		{[]api.Node{dir("/", bottom()), seg("/a", high()), seg("/a/b", high())}, api.ErrLabel},
		{[]api.Node{dir("/", bottom()), dir("/a", high()), dir("/a/b", aside()), none("/b/c")}, api.ErrLabel},
		{[]api.Node{dir("/", bottom()), none("/a/b"), seg("/b", high())}, api.ErrNone},
		{[]api.Node{dir("/", bottom()), none("/a/b"), seg("/c", bottom()), none("/c/d")}, api.ErrNone},
		{[]api.Node{dir("/", bottom()), seg("/a", bottom()), none("/a/b"), none("/c/d")}, api.ErrKind},
		{[]api.Node{dir("/", bottom()), seg("/a", bottom()), none("/a/b"), seg("/c", high())}, api.ErrKind},
		// the label of `/` behind all
		{[]api.Node{dir("/", high()), none("/a/b")}, api.ErrNone},
		{[]api.Node{dir("/", high()), seg("/a", high()), none("/a/b")}, api.ErrKind},
		{[]api.Node{dir("/", high()), dir("/a", high()), seg("/a/b", high())}, api.ErrLabel},
		{[]api.Node{dir("/", high())}, api.ErrLabel},
	} {
		if e := tree.Check(x.l); e != x.want {
			t.Errorf("P6: %d: %v, not %v", i, e, x.want)
		}
	}
}

// wantCheck says P1101 once more, without a search.
func wantCheck(l []api.Node) api.Errno {
	at := map[string]api.Node{}
	for i, n := range l {
		if e := node.Check(n); e != api.OK {
			return e
		}
		if i > 0 && strings.Compare(l[i-1].Path, n.Path) >= 0 {
			return api.ErrArg
		}
		at[n.Path] = n
	}
	top, is := at["/"]
	if !is {
		return api.ErrNone
	}
	for _, n := range l {
		if n.Path == "/" {
			continue
		}
		up, is := at[path.Parent(n.Path)]
		switch {
		case !is:
			return api.ErrNone
		case !up.Dir:
			return api.ErrKind
		case !label.Over(n.Label, up.Label), !n.Dir && n.Label != up.Label:
			return api.ErrLabel
		}
	}
	if top.Label != bottom() {
		return api.ErrLabel
	}
	return api.OK
}

// dice makes data that mostly may be, and now and then may not; the same in each run.
type dice struct{ *rand.Rand }

func (d dice) oneOf(l ...string) string { return l[d.IntN(len(l))] }

func (d dice) label() api.Label {
	all := []api.Label{bottom(), bottom(), high(), higher(), aside(), lab(3, 255, 0, 0)}
	return all[d.IntN(len(all))]
}

func (d dice) path() string {
	p := "/"
	for range d.IntN(4) {
		p = path.Join(p, d.oneOf("a", "b", "a0", "ab", "aa", "0"))
	}
	return p
}

func (d dice) node() api.Node {
	n := seg(d.path(), d.label())
	if d.IntN(2) == 0 || n.Path == "/" {
		n = dir(n.Path, n.Label)
	}
	return n
}

// list stands by its Paths.
func (d dice) list() []api.Node {
	var out []api.Node
	for range d.IntN(14) {
		out = append(out, d.node())
	}
	slices.SortStableFunc(out, byPath)
	return slices.CompactFunc(out, func(a, b api.Node) bool { return a.Path == b.Path })
}

// tree is one that Check allows.
func (d dice) tree() []api.Node {
	out := []api.Node{dir("/", bottom())}
	for range d.IntN(25) {
		up := out[d.IntN(len(out))]
		n := seg(path.Join(up.Path, d.oneOf("a", "b", "a0", "ab", "aa", "0")), up.Label)
		if d.IntN(3) > 0 {
			n = dir(n.Path, label.Join(up.Label, d.label()))
		}
		is := slices.ContainsFunc(out, func(m api.Node) bool { return m.Path == n.Path })
		if up.Dir && !is && path.Check(n.Path) == api.OK {
			out = append(out, n)
		}
	}
	slices.SortFunc(out, byPath)
	return out
}

// spoil changes something of a list.
func (d dice) spoil(l []api.Node) []api.Node {
	if len(l) == 0 {
		return l
	}
	i, j := d.IntN(len(l)), d.IntN(len(l))
	switch d.IntN(9) {
	case 0:
		l[i], l[j] = l[j], l[i]
	case 1:
		l = slices.Delete(l, i, i+1)
	case 2:
		l[i].Label = d.label()
	case 3:
		l[i].Dir = !l[i].Dir
	case 4:
		l[i] = dir(l[i].Path, l[i].Label)
	case 5:
		l[i] = seg(l[i].Path, l[i].Label)
	case 6:
		l[i].Words = make([]int64, 17)
	case 7:
		l = slices.Insert(l, i, d.node())
	case 8:
		l[i].Path = d.oneOf("", "/-", "/a-b", d.path(), strings.Repeat("/", 79))
	}
	return l
}

func TestCheckMany(t *testing.T) { // P1101, P6, P1104
	d := dice{rand.New(rand.NewPCG(11, 1101))}
	seen := map[api.Errno]int{}
	for range 40000 {
		l := d.tree()
		if d.IntN(20) == 0 {
			l = d.list()
		}
		for range d.IntN(4) {
			l = d.spoil(l)
		}
		want := wantCheck(l)
		seen[want]++
		if e := tree.Check(l); e != want {
			t.Fatalf("P1101: Check of %+v: %v, not %v", l, e, want)
		}
		if want == api.OK {
			holdRise(t, l)
		}
	}
	for _, e := range []api.Errno{api.OK, api.ErrArg, api.ErrNone, api.ErrKind, api.ErrLabel, api.ErrMany, api.ErrLong, api.ErrBad} {
		if seen[e] < 100 {
			t.Errorf("the test's data are lopsided: %v", seen)
		}
	}
}

// holdRise holds a tree to P1104: whatever lies below a node is over it.
func holdRise(t *testing.T, l []api.Node) {
	t.Helper()
	for _, n := range l {
		for _, above := range l {
			if path.In(n.Path, above.Path) && !label.Over(n.Label, above.Label) {
				t.Fatalf("P1104: %s at %v lies below %s at %v", n.Path, n.Label, above.Path, above.Label)
			}
		}
		if n.Path != "/" && !path.In(n.Path, "/") || !label.Over(n.Label, bottom()) {
			t.Fatalf("P1104: %s at %v", n.Path, n.Label)
		}
	}
}

func TestRise(t *testing.T) { // P1104
	if tree.Check(some()) != api.OK {
		t.Fatal("P1101: some is no tree")
	}
	holdRise(t, some())
	for i := range some() { // to put one at another label breaks Check, or labels rise still
		for _, at := range []api.Label{bottom(), high(), higher(), aside(), {}} {
			n := some()[i]
			n.Label = at
			if l := tree.Put(some(), n); tree.Check(l) == api.OK {
				holdRise(t, l)
			}
		}
	}
}

// notThere are paths of nodes that none of the lists has.
func notThere() []string {
	return []string{"", "/a/", "//", "/a/b/c", "/a/b1", "/aa", "/d", "a", "b", "/A", "/0", "/a.", "/a-", "/zzz", "\x00", "\xff", "/\x00", strings.Repeat("/abcdefghij01", 6), strings.Repeat("/", 300)}
}

func TestFind(t *testing.T) { // P1102, P4
	for _, l := range [][]api.Node{some(), some()[:1], some()[:2], some()[3:], fronts()} {
		for _, want := range l {
			if n, is := tree.Find(l, want.Path); !is || !node.Same(n, want) {
				t.Errorf("P1102: Find of %q: %+v, %v", want.Path, n, is)
			}
		}
	}
	for _, l := range [][]api.Node{nil, {}, some()[:1], some(), fronts()} {
		for _, p := range notThere() {
			if n, is := tree.Find(l, p); is || !reflect.DeepEqual(n, api.Node{}) {
				t.Errorf("P4: Find of %q: %+v, %v", p, n, is)
			}
		}
	}
	if _, is := tree.Find(some()[1:], "/"); is {
		t.Error("P1102: Find of a `/` that is not there")
	}
}

func TestPut(t *testing.T) { // P1102
	for i, n := range some() { // each, ahead, in between and behind
		was := slices.Delete(some(), i, i+1)
		if l := tree.Put(was, n); !sameAll(l, some()) {
			t.Errorf("P1102: Put of %q: %q", n.Path, pathsOf(l))
		}
		if len(was) != len(some())-1 {
			t.Errorf("P2: Put of %q", n.Path)
		}
		m := dir(n.Path, lab(3, 3, 0, 0)) // in the place of one with that Path
		m.Acl, m.Words = nil, []int64{8}
		want := some()
		want[i] = m
		if l := tree.Put(some(), m); !sameAll(l, want) {
			t.Errorf("P1102: Put of another %q: %+v", n.Path, l)
		}
	}
	for _, l := range [][]api.Node{nil, {}, make([]api.Node, 0, 3)} {
		for _, p := range []string{"/", "/a", "/a/b"} {
			if l := tree.Put(l, dir(p, high())); !sameAll(l, []api.Node{dir(p, high())}) {
				t.Errorf("P1102: Put of %q to no nodes: %+v", p, l)
			}
		}
	}
	var l []api.Node // whether it may be there is not asked
	for _, p := range []string{"/ab/b", "/a/b", "/", "/a-b", "/ab", "/a", "/a/b"} {
		l = tree.Put(l, seg(p, high()))
	}
	if want := pathsOf(fronts()); !slices.Equal(pathsOf(l), want) {
		t.Errorf("P1102: Put one by one: %q, not %q", pathsOf(l), want)
	}
}

func TestDrop(t *testing.T) { // P1102
	for _, l := range [][]api.Node{some(), fronts()} {
		for i, n := range l {
			was := deep(l)
			if got, want := tree.Drop(l, n.Path), slices.Delete(deep(l), i, i+1); !sameAll(got, want) {
				t.Errorf("P1102: Drop of %q: %q", n.Path, pathsOf(got))
			}
			if !sameAll(l, was) {
				t.Errorf("P2: Drop of %q", n.Path)
			}
		}
	}
	for _, l := range [][]api.Node{nil, {}, some()[:1], some(), fronts()} {
		for _, p := range notThere() {
			if got := tree.Drop(l, p); !sameAll(got, l) {
				t.Errorf("P1102: Drop of %q, which is not there: %q", p, pathsOf(got))
			}
		}
	}
	if l := tree.Drop(some()[:1], "/"); len(l) != 0 {
		t.Errorf("P1102: Drop of the only one: %q", pathsOf(l))
	}
}

func TestUnder(t *testing.T) { // P1102
	for p, want := range map[string][]string{
		"/": {"a", "a0", "ab", "b", "c"}, "/a": {"b", "b0", "c"}, "/a/b0": {"x", "y"}, "/a/b0/y": {"z"}, "/ab": {"b"}, // directories with several, with one
		"/b":   nil,                                          // one with none
		"/a/b": nil, "/a0": nil, "/c": nil, "/a/b0/y/z": nil, // segments
		"": nil, "/x": nil, "/a/x": nil, "/a/": nil, "//": nil, "a": nil, "/aa": nil, strings.Repeat("/a", 200): nil, // not there
	} {
		if l := tree.Under(some(), p); !slices.Equal(l, want) {
			t.Errorf("P1102: Under of %q: %q, not %q", p, l, want)
		}
	}
	for p, want := range map[string][]string{"/": {"a", "a-b", "ab"}, "/a": {"b"}, "/a-b": nil, "/ab": {"b"}, "/a/b": nil} {
		if l := tree.Under(fronts(), p); !slices.Equal(l, want) {
			t.Errorf("P1102: Under of %q: %q, not %q", p, l, want)
		}
	}
	for _, l := range [][]api.Node{nil, {}, some()[:1]} {
		for _, p := range []string{"/", "/a", "/a/b"} {
			if got := tree.Under(l, p); len(got) != 0 {
				t.Errorf("P1102: Under of %q: %q", p, got)
			}
		}
	}
	if l := tree.Under(some()[2:], "/a"); !slices.Equal(l, []string{"b", "b0", "c"}) { // whether it is there itself is not asked
		t.Errorf("P1102: Under of a path that is not there: %q", l)
	}
	l := []api.Node{dir("/", bottom()), seg("/n1", bottom()), seg("/n10", bottom()), seg("/n2", bottom())} // rising byte by byte
	if got := tree.Under(l, "/"); !slices.Equal(got, []string{"n1", "n10", "n2"}) {
		t.Errorf("P1102: Under: %q", got)
	}
}

// model is a tree by a map, told in order.
type model map[string]api.Node

func (m model) list() []api.Node {
	var out []api.Node
	for _, n := range m {
		out = append(out, n)
	}
	slices.SortFunc(out, byPath)
	return out
}

func (m model) under(p string) []string {
	var out []string
	for k := range m {
		if k != "/" && path.Parent(k) == p {
			out = append(out, path.Last(k))
		}
	}
	slices.Sort(out)
	return out
}

func TestManyPlays(t *testing.T) { // P1102
	d := dice{rand.New(rand.NewPCG(11, 1102))}
	for range 200 {
		m := model{}
		var l []api.Node
		for range 60 {
			p := d.path()
			if d.IntN(3) > 0 {
				n := d.node()
				n.Path = p
				n.Words = []int64{d.Int64()}
				l, m[p] = tree.Put(l, n), n
			} else {
				l = tree.Drop(l, p)
				delete(m, p)
			}
			if want := m.list(); !sameAll(l, want) {
				t.Fatalf("P1102: %q, not %q", pathsOf(l), pathsOf(want))
			}
			p = d.path()
			n, is := tree.Find(l, p)
			if want, has := m[p]; is != has || !node.Same(n, want) {
				t.Fatalf("P1102: Find of %q: %+v, %v", p, n, is)
			}
			if got, want := tree.Under(l, p), m.under(p); !slices.Equal(got, want) {
				t.Fatalf("P1102: Under of %q: %q, not %q", p, got, want)
			}
		}
	}
}

// holdFirst says P1103 once more, by the paths and labels that are to be there.
func holdFirst(t *testing.T, c api.Config, at ...api.Label) {
	t.Helper()
	if e := user.Config(c); e != api.OK {
		t.Fatalf("the test's config %v may not be: %v", c, e)
	}
	want := []api.Node{{Path: "/", Dir: true, Label: bottom(), By: bottom(), Acl: []api.Grant{{User: "*", Modes: 7}}}}
	for i, x := range at {
		want = append(want, api.Node{Path: fmt.Sprintf("/l%d", i), Dir: true, Label: x, By: bottom(), Acl: []api.Grant{{User: "*", Modes: 7}}})
	}
	l := tree.First(c)
	if !sameAll(l, want) {
		t.Fatalf("P1103: First of %v: %+v", c.Terms, l)
	}
	if e := tree.Check(l); e != api.OK {
		t.Fatalf("P1104: First of %v is no tree: %v", c.Terms, e)
	}
	holdRise(t, l)
}

func terms(l ...api.Label) api.Config { return api.Config{Terms: l} }

func TestExample(t *testing.T) { // the chapter's example 1
	l := tree.First(terms(bottom(), bottom(), lab(1, 0, 3, 255)))
	if !slices.Equal(pathsOf(l), []string{"/", "/l0", "/l1"}) || l[1].Label != bottom() || l[2].Label != lab(1, 0, 3, 255) {
		t.Errorf("P1103: %+v", l)
	}
	holdFirst(t, terms(bottom(), bottom(), lab(1, 0, 3, 255)), bottom(), lab(1, 0, 3, 255))
}

func TestFirst(t *testing.T) { // P1103, P1104
	holdFirst(t, terms(bottom()), bottom())
	holdFirst(t, terms(higher()), higher())
	holdFirst(t, terms(api.Label{}), api.Label{})
	holdFirst(t, terms(lab(3, 255, 0, 0), bottom()), lab(3, 255, 0, 0), bottom()) // in the order of Terms, not of labels
	holdFirst(t, terms(high(), aside(), high(), bottom(), aside(), high(), higher(), bottom()), high(), aside(), bottom(), higher())
	holdFirst(t, terms(slices.Repeat([]api.Label{high()}, 8)...), high())
	eight := []api.Label{lab(0, 7, 0, 0), lab(0, 6, 0, 0), lab(0, 5, 0, 0), lab(0, 4, 0, 0), lab(0, 3, 0, 0), lab(0, 2, 0, 0), lab(0, 1, 0, 0), lab(0, 0, 0, 0)}
	holdFirst(t, terms(eight...), eight...)
	alike := []api.Label{lab(0, 0, 0, 0), lab(1, 0, 0, 0), lab(0, 1, 0, 0), lab(0, 0, 1, 0), lab(0, 0, 0, 1)} // each of the four numbers tells them apart
	holdFirst(t, terms(alike...), alike...)
	c := terms(high())
	c.Users = []api.User{{Name: "ann", Clear: aside()}} // theirs and the rules' labels have no directories
	c.Rules = []api.Rule{{From: higher(), To: bottom(), Word: "w"}}
	holdFirst(t, c, high())
	d := dice{rand.New(rand.NewPCG(11, 1103))}
	for range 3000 {
		var c api.Config
		var at []api.Label
		for range 1 + d.IntN(8) {
			x := d.label()
			if d.IntN(3) == 0 {
				x = lab(d.IntN(4), d.IntN(256), d.IntN(4), d.IntN(256))
			}
			c.Terms = append(c.Terms, x)
			if !slices.Contains(at, x) {
				at = append(at, x)
			}
		}
		holdFirst(t, c, at...)
	}
}

// memory is a list of nodes with spare room behind it and behind each of its lists, in which something stands.
type memory struct {
	nodes []api.Node
	acls  [][]api.Grant
	words [][]int64
}

func roomy(l []api.Node) (in []api.Node, all memory) {
	for _, n := range l {
		acl := append(slices.Clone(n.Acl), slices.Repeat([]api.Grant{{User: "spare", Modes: 77}}, 3)...)
		words := append(slices.Clone(n.Words), -77, -77, -77)
		all.acls, all.words = append(all.acls, acl), append(all.words, words)
		n.Acl, n.Words = acl[:len(n.Acl)], words[:len(n.Words)]
		all.nodes = append(all.nodes, n)
	}
	all.nodes = append(all.nodes, slices.Repeat([]api.Node{{Path: "/spare", Words: []int64{7}}}, 3)...)
	return all.nodes[:len(l)], all
}

func (m memory) clone() memory {
	out := memory{nodes: deep(m.nodes)}
	for i := range m.acls {
		out.acls, out.words = append(out.acls, slices.Clone(m.acls[i])), append(out.words, slices.Clone(m.words[i]))
	}
	return out
}

func (m memory) same(o memory) bool {
	return sameAll(m.nodes, o.nodes) && slices.EqualFunc(m.acls, o.acls, slices.Equal[[]api.Grant]) && slices.EqualFunc(m.words, o.words, slices.Equal[[]int64])
}

// scrawl writes over all memory of a list, its spare room too.
func scrawl(l []api.Node) {
	l = l[:cap(l)]
	for i := range l {
		scrawlNode(l[i])
		l[i] = api.Node{Path: "scrawl", Label: noLabel(), Acl: []api.Grant{{User: "scrawl", Modes: 99}}}
	}
}

func scrawlNode(n api.Node) {
	for i := range n.Acl[:cap(n.Acl)] {
		n.Acl[:cap(n.Acl)][i] = api.Grant{User: "scrawl", Modes: 99}
	}
	for i := range n.Words[:cap(n.Words)] {
		n.Words[:cap(n.Words)][i] = -99
	}
}

// apart tells whether no two of a list's lists share memory: what is written to those of one node is seen in none of those behind it.
func apart(l []api.Node) bool {
	was := deep(l)
	for i := range l {
		scrawlNode(l[i])
		if !sameAll(l[i+1:], was[i+1:]) {
			return false
		}
	}
	return true
}

func TestMemory(t *testing.T) { // P2, P3
	d := dice{rand.New(rand.NewPCG(11, 2))}
	for range 1500 {
		l, all := roomy(d.tree())
		one, oneAll := roomy([]api.Node{d.node()})
		was, oneWas, p := all.clone(), oneAll.clone(), d.path()
		for range 2 {
			tree.Check(l)
			for _, answer := range [][]api.Node{tree.Put(l, one[0]), tree.Drop(l, p), tree.Put(l, l[d.IntN(len(l))]), tree.Put(nil, one[0]), tree.Drop(l[:1], "/x")} {
				scrawl(answer)
			}
			for _, m := range l {
				n, _ := tree.Find(l, m.Path)
				scrawlNode(n)
			}
			names := tree.Under(l, "/")
			for i := range names[:cap(names)] {
				names[:cap(names)][i] = "scrawl"
			}
			if !all.same(was) || !oneAll.same(oneWas) {
				t.Fatalf("P2: what was handed in is changed: %+v", l)
			}
		}
		put, drop := tree.Put(l, one[0]), tree.Drop(l, p)
		put2, drop2 := tree.Put(l, one[0]), tree.Drop(l, p)
		if !sameAll(put, put2) || !sameAll(drop, drop2) {
			t.Fatalf("P3: of %q the second answer is another one", pathsOf(l))
		}
		n, _ := tree.Find(l, l[len(l)-1].Path)
		names, last := tree.Under(l, "/"), deep(l)[len(l)-1]
		wasNames := slices.Clone(names)
		scrawl(l)
		scrawl(one)
		if !sameAll(put, put2) || !sameAll(drop, drop2) || !node.Same(n, last) || !slices.Equal(names, wasNames) {
			t.Fatalf("P2: what was told is changed by a change of what was handed in: %+v", put)
		}
		scrawl(put)
		if wantPut := tree.Put(was.nodes[:len(l)], oneWas.nodes[0]); !sameAll(put2, wantPut) || !sameAll(drop2, tree.Drop(was.nodes[:len(l)], p)) {
			t.Fatal("P2: one answer is changed by a change of another one")
		}
	}
}

func TestNoTwoListsShare(t *testing.T) { // P2
	acl, words := []api.Grant{{User: "*", Modes: 1}, {User: "ann", Modes: 2}}, []int64{1, 2, 3}
	var l []api.Node // what is handed in may share what it likes
	for _, p := range []string{"/a", "/b", "/c"} {
		l = append(l, api.Node{Path: p, Label: bottom(), Acl: acl[:1], Words: words[:2]})
	}
	n := api.Node{Path: "/bb", Label: bottom(), Acl: acl, Words: words}
	if !apart(tree.Put(l, n)) || !apart(tree.Put(l, l[1])) || !apart(tree.Drop(l, "/b")) || !apart(tree.Drop(l, "/x")) {
		t.Error("P2: two lists of one answer share memory")
	}
	if first := tree.First(terms(bottom(), high(), bottom(), aside())); !apart(first) || len(first) != 4 {
		t.Error("P2: two lists of one First share memory")
	}
	if !slices.Equal(acl, []api.Grant{{User: "*", Modes: 1}, {User: "ann", Modes: 2}}) || !slices.Equal(words, []int64{1, 2, 3}) {
		t.Errorf("P2: what was handed in is changed: %v, %v", acl, words)
	}
}

func TestFirstMemory(t *testing.T) { // P2, P3
	room := []api.Label{bottom(), high(), bottom(), aside(), noLabel(), noLabel()}
	was := slices.Clone(room)
	c := terms(room[:4]...)
	l := tree.First(c)
	again := tree.First(c)
	if !sameAll(l, again) {
		t.Fatalf("P3: the second First is another one: %+v", again)
	}
	scrawl(l)
	if !slices.Equal(room, was) || !sameAll(tree.First(c), again) {
		t.Error("P2: a change of a First changed what was handed in, or a later one")
	}
	room[0], room[1] = higher(), higher()
	if !sameAll(again, tree.First(terms(was[:4]...))) {
		t.Error("P2: a First is changed by a change of what was handed in")
	}
}

func TestTreeAheadStays(t *testing.T) { // P2: by a row of changes, each tree ahead stays as it was
	trees, was := [][]api.Node{some()}, [][]api.Node{some()}
	for i, n := range some() {
		now := trees[len(trees)-1]
		if i%2 == 0 {
			n.Words = []int64{int64(i)}
			now = tree.Put(now, n)
		} else {
			now = tree.Drop(now, n.Path)
		}
		trees, was = append(trees, now), append(was, deep(now))
	}
	for i := range trees {
		if !sameAll(trees[i], was[i]) {
			t.Errorf("P2: tree %d is changed: %+v", i, trees[i])
		}
	}
	for i := range trees {
		scrawl(trees[i])
		for j := i + 1; j < len(trees); j++ {
			if !sameAll(trees[j], was[j]) {
				t.Fatalf("P2: trees %d and %d share memory", i, j)
			}
		}
	}
}

func TestNoListIsAnEmptyOne(t *testing.T) { // P2
	if tree.Check(nil) != tree.Check([]api.Node{}) || len(tree.Drop(nil, "/")) != 0 || len(tree.Drop([]api.Node{}, "/")) != 0 || len(tree.Under(nil, "/")) != 0 {
		t.Error("P2: no nodes")
	}
	none, empty := dir("/", bottom()), dir("/", bottom())
	none.Acl, none.Words, empty.Acl, empty.Words = nil, nil, []api.Grant{}, []int64{}
	if tree.Check([]api.Node{none}) != api.OK || tree.Check([]api.Node{empty}) != api.OK {
		t.Error("P2: Check of a node without grants and words")
	}
	if !sameAll(tree.Put(nil, none), tree.Put([]api.Node{}, empty)) {
		t.Error("P2: Put of a node without grants and words")
	}
}

func TestWhatMayNotBe(t *testing.T) { // P1, P2, P8: no panic, an end, and nothing changed
	d := dice{rand.New(rand.NewPCG(11, 8))}
	for range 4000 {
		var l []api.Node
		for range d.IntN(12) {
			n := api.Node{Path: d.oneOf(append(notThere(), "/", "/a", "/a/b")...), Dir: d.IntN(2) == 0, Label: lab(d.IntN(9)-3, d.IntN(999)-300, d.IntN(9)-3, math.MinInt)}
			n.Acl, n.Words, n.Rings.R1 = make([]api.Grant, d.IntN(9)), make([]int64, d.IntN(30)), d.IntN(20)-9
			l = append(l, n)
		}
		l, all := roomy(l)
		was, p := all.clone(), d.oneOf(append(notThere(), "/", "/a", "/a/b")...)
		if e := tree.Check(l); e != wantCheck(l) {
			t.Fatalf("P1101: Check of %+v: %v", l, e)
		}
		if n, is := tree.Find(l, p); !is && !reflect.DeepEqual(n, api.Node{}) {
			t.Fatalf("P4: Find of %q: %+v", p, n)
		}
		scrawl(tree.Put(l, api.Node{Path: p}))
		scrawl(tree.Drop(l, p))
		tree.Under(l, p)
		if !all.same(was) {
			t.Fatalf("P2: what was handed in is changed: %+v", l)
		}
	}
	odd := []api.Label{noLabel(), noLabel(), {}, lab(-1, -1, -1, -1)}
	for i := range 1000 {
		odd = append(odd, lab(i, i, i, i))
	}
	tree.First(api.Config{})
	tree.First(terms(odd...))
	tree.Check(tree.First(terms(odd...)))
	long := make([]api.Node, 1<<16)
	tree.Find(long, "/")
	tree.Under(long, "/")
	if e := tree.Check(long); e != api.ErrArg {
		t.Errorf("P1101: Check of nodes without paths: %v", e)
	}
	if l := tree.Drop(tree.Put(long, api.Node{Path: "/"}), "/"); len(l) != len(long) {
		t.Errorf("P1102: %d of %d nodes", len(l), len(long))
	}
}
