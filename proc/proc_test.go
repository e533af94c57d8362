package proc_test

import (
	"fmt"
	"math"
	"math/rand/v2"
	"slices"
	"strings"
	"testing"

	"donjon/api"
	"donjon/cpu"
	"donjon/isa"
	"donjon/label"
	"donjon/monitor"
	"donjon/node"
	"donjon/path"
	"donjon/proc"
	"donjon/tree"
)

func lab(sec, secCats, integ, intCats int) api.Label {
	return api.Label{Sec: sec, SecCats: secCats, Int: integ, IntCats: intCats}
}

func bottom() api.Label { return lab(0, 0, 3, 255) }

// high and higher are over bottom, higher over high, top over all; aside is over bottom alone.
func high() api.Label { return lab(1, 1, 2, 6) }

func higher() api.Label { return lab(2, 5, 1, 2) }

func top() api.Label { return lab(3, 255, 0, 0) }

func aside() api.Label { return lab(1, 2, 3, 255) }

func lattice() []api.Label { return []api.Label{bottom(), high(), higher(), top(), aside()} }

func grant(user string, modes int) api.Grant { return api.Grant{User: user, Modes: modes} }

func every(modes int) []api.Grant { return []api.Grant{grant("*", modes)} }

func br(r1, r2, r3, gates int) api.Rings { return api.Rings{R1: r1, R2: r2, R3: r3, Gates: gates} }

// open are brackets in which ring 4, that of the beginning, may do all.
func open() api.Rings { return br(4, 4, 4, 0) }

func dir(p string, at api.Label, list []api.Grant) api.Node {
	return api.Node{Path: p, Dir: true, Label: at, By: high(), Acl: list}
}

func seg(p string, at api.Label, list []api.Grant, words ...int64) api.Node {
	return api.Node{Path: p, Label: at, By: aside(), Acl: list, Rings: open(), Words: words}
}

func sub(user string, at api.Label) monitor.Subject {
	return monitor.Subject{User: user, Label: at}
}

func ann() monitor.Subject { return sub("ann", bottom()) }

// in is an instruction's word, from its bits; pw is a pointer's.
func in(op, p, n int) int64 { return int64(uint64(op)<<56 | uint64(p)<<48 | uint64(uint32(n))) }

func pw(seg, off, ring int) int64 { return int64(ring)<<48 | int64(seg)<<32 | int64(off) }

func ptr(seg, off, ring int) api.Pointer { return api.Pointer{Seg: seg, Off: off, Ring: ring} }

func halt() int64 { return in(isa.Halt, 0, 0) }

func out() int64 { return in(isa.Out, 0, 0) }

// treeOf is one of / and the nodes that are told, by their paths.
func treeOf(l ...api.Node) []api.Node {
	l = append([]api.Node{dir("/", bottom(), every(7))}, l...)
	slices.SortFunc(l, func(a, b api.Node) int { return strings.Compare(a.Path, b.Path) })
	return l
}

// with is a tree of a program /p, and of data /d, /e, /f of every one at bottom.
func with(program ...int64) []api.Node {
	return treeOf(seg("/p", bottom(), every(7), program...), seg("/d", bottom(), every(7), 10, 20, 30), seg("/e", bottom(), every(7), 40, 50), seg("/f", bottom(), every(7), 60))
}

// The same once more, by the words of the document: who may, and what a process makes.

// over says W1.
func over(a, b api.Label) bool {
	return a.Sec >= b.Sec && b.SecCats&^a.SecCats == 0 && a.Int <= b.Int && a.IntCats&^b.IntCats == 0
}

func find(l []api.Node, p string) (api.Node, bool) {
	for _, n := range l {
		if n.Path == p {
			return n, true
		}
	}
	return api.Node{}, false
}

func modesOf(list []api.Grant, user string) int {
	all := 0
	for _, g := range list {
		if g.User == user {
			return g.Modes
		}
		if g.User == "*" {
			all = g.Modes
		}
	}
	return all
}

// wantSee says P1301, wantMay P1302.
func wantSee(l []api.Node, s monitor.Subject, p string) (api.Node, api.Errno) {
	if e := path.Check(p); e != api.OK {
		return api.Node{}, e
	}
	var way []string
	for up := path.Parent(p); up != ""; up = path.Parent(up) {
		way = append([]string{up}, way...)
	}
	for _, up := range way {
		n, is := find(l, up)
		if !is {
			return api.Node{}, api.ErrNone
		}
		if !n.Dir {
			return api.Node{}, api.ErrKind
		}
		if !over(s.Label, n.Label) {
			return api.Node{}, api.ErrLabel
		}
	}
	n, is := find(l, p)
	if !is {
		return api.Node{}, api.ErrNone
	}
	return n, api.OK
}

func wantMay(l []api.Node, s monitor.Subject, p string, mode int) (api.Node, api.Errno) {
	n, e := wantSee(l, s, p)
	switch {
	case e != api.OK:
		return api.Node{}, e
	case mode&5 != 0 && !over(s.Label, n.Label), mode&2 != 0 && s.Label != n.Label:
		return api.Node{}, api.ErrLabel
	case modesOf(n.Acl, s.User)&mode != mode:
		return api.Node{}, api.ErrAcl
	}
	return n, api.OK
}

// wantMake says P1701.
func wantMake(l []api.Node, s monitor.Subject, paths []string) api.Errno {
	if len(paths) == 0 || len(paths) > 4 {
		return api.ErrArg
	}
	for k, p := range paths {
		mode := 1
		if k == 0 {
			mode = 4
		}
		n, e := wantMay(l, s, p, mode)
		if e != api.OK {
			return e
		}
		if n.Dir {
			return api.ErrKind
		}
	}
	return api.OK
}

// anew is a memory that looks for each segment, and asks who may, at each reference anew.
type anew struct {
	nodes []api.Node
	s     monitor.Subject
	binds []string
}

func (m anew) Segment(k int) (cpu.Segment, bool) {
	if k < 0 || k >= len(m.binds) {
		return cpu.Segment{}, false
	}
	n, e := wantSee(m.nodes, m.s, m.binds[k])
	if e != api.OK || n.Dir {
		return cpu.Segment{}, false
	}
	g := cpu.Segment{Words: slices.Clone(n.Words), Rings: n.Rings}
	for _, mode := range []int{1, 2, 4} {
		if _, e := wantMay(m.nodes, m.s, m.binds[k], mode); e == api.OK {
			g.Modes += mode
		}
	}
	return g, true
}

func (m anew) Write(k, off int, w int64) {
	for i := range m.nodes {
		if m.nodes[i].Path == m.binds[k] {
			m.nodes[i].Words[off] = w
		}
	}
}

// wantRun says P1702, step by step.
func wantRun(l []api.Node, s monitor.Subject, p proc.Process, n int) outcome {
	if n < 0 || n > 100 {
		return outcome{e: api.ErrArg}
	}
	o := outcome{nodes: deep(l), p: deepProcess(p)}
	for range n {
		x, w, told, e := cpu.Step(o.p.State, anew{o.nodes, s, p.Binds})
		if e != api.OK {
			o.over, o.e = true, e
			return o
		}
		o.p.State = x
		if told {
			o.told = append(o.told, w)
		}
		if x.Halted {
			o.over = true
			return o
		}
	}
	return o
}

// outcome is what Run answers.
type outcome struct {
	nodes []api.Node
	p     proc.Process
	told  []int64
	over  bool
	e     api.Errno
}

func sameState(a, b cpu.State) bool {
	return a.Seg == b.Seg && a.Off == b.Off && a.Ring == b.Ring && a.A == b.A && a.P == b.P && a.Halted == b.Halted && slices.Equal(a.Stack, b.Stack)
}

func sameProcess(a, b proc.Process) bool {
	return slices.Equal(a.Binds, b.Binds) && sameState(a.State, b.State)
}

func sameNodes(a, b []api.Node) bool { return slices.EqualFunc(a, b, node.Same) }

func (o outcome) same(x outcome) bool {
	return sameNodes(o.nodes, x.nodes) && sameProcess(o.p, x.p) && slices.Equal(o.told, x.told) && o.over == x.over && o.e == x.e
}

func (o outcome) clone() outcome {
	o.nodes, o.p, o.told = deep(o.nodes), deepProcess(o.p), slices.Clone(o.told)
	return o
}

// deep is a list with memory of its own, all through.
func deep(l []api.Node) []api.Node {
	var out []api.Node
	for _, n := range l {
		n.Acl, n.Words = slices.Clone(n.Acl), slices.Clone(n.Words)
		out = append(out, n)
	}
	return out
}

func deepProcess(p proc.Process) proc.Process {
	p.Binds, p.State.Stack = slices.Clone(p.Binds), slices.Clone(p.State.Stack)
	return p
}

// Memory: what is handed in has spare room everywhere, with marks in it.

// spare is a list with spare room behind it.
func spare[T any](l []T, mark T) []T {
	out := append(slices.Clone(l), mark, mark, mark)
	return out[:len(l)]
}

// room is all of a list, its spare room too.
func room[T any](l []T) []T { return l[:cap(l)] }

func fill[T any](l []T, w T) {
	for i := range room(l) {
		room(l)[i] = w
	}
}

// roomy is a list of nodes, spare room all through.
func roomy(l []api.Node) []api.Node {
	out := spare(l, seg("/spare", top(), every(1), 7))
	for i, n := range out {
		out[i].Acl, out[i].Words = spare(n.Acl, grant("spare", 77)), spare(n.Words, -77)
	}
	return out
}

func roomyProcess(p proc.Process) proc.Process {
	p.Binds, p.State.Stack = spare(p.Binds, "/spare"), spare(p.State.Stack, cpu.Frame{Seg: 71, Off: 72, Ring: 73})
	return p
}

// all is a list of nodes with all spare room told as if it were in it; each row is copied.
func all(l []api.Node) []api.Node {
	out := slices.Clone(room(l))
	for i, n := range out {
		out[i].Acl, out[i].Words = slices.Clone(room(n.Acl)), slices.Clone(room(n.Words))
	}
	return out
}

func allProcess(p proc.Process) proc.Process {
	p.Binds, p.State.Stack = slices.Clone(room(p.Binds)), slices.Clone(room(p.State.Stack))
	return p
}

// scrawl writes over all memory of an answer, or of what was handed in.
func scrawl(l []api.Node, p proc.Process) {
	for _, n := range l {
		fill(n.Acl, grant("scrawl", 99))
		fill(n.Words, -99)
	}
	fill(l, api.Node{Path: "scrawl"})
	fill(p.Binds, "scrawl")
	fill(p.State.Stack, cpu.Frame{Seg: -1, Off: -2, Ring: -3})
}

// run makes steps, and holds them to P2: what was handed in stays, its spare room too, and shares no memory with what is answered.
func run(t *testing.T, l []api.Node, s monitor.Subject, p proc.Process, n int) outcome {
	t.Helper()
	l, p = roomy(l), roomyProcess(p)
	wasL, wasP := all(l), allProcess(p)
	nodes, q, told, over, e := proc.Run(l, s, p, n)
	if !sameNodes(all(l), wasL) || !sameProcess(allProcess(p), wasP) {
		t.Fatalf("P2: Run of %d steps: what was handed in is changed: %+v, %+v, not %+v, %+v", n, all(l), allProcess(p), wasL, wasP)
	}
	wasNodes, wasQ := all(nodes), allProcess(q)
	scrawl(l, p)
	if !sameNodes(all(nodes), wasNodes) || !sameProcess(allProcess(q), wasQ) {
		t.Fatalf("P2: Run of %d steps: what was answered is changed by a change of what was handed in: %+v, %+v, not %+v, %+v", n, all(nodes), allProcess(q), wasNodes, wasQ)
	}
	return outcome{nodes, q, told, over, e}.clone()
}

// holds makes steps, and holds them to the telling above.
func holds(t *testing.T, what string, l []api.Node, s monitor.Subject, p proc.Process, n int) outcome {
	t.Helper()
	got := run(t, l, s, p, n)
	if want := wantRun(l, s, p, n); !got.same(want) {
		t.Fatalf("P1702: %s: Run of %d steps: %+v, not %+v", what, n, got, want)
	}
	return got
}

// made makes a process that may be made.
func made(t *testing.T, l []api.Node, s monitor.Subject, paths ...string) proc.Process {
	t.Helper()
	if e := tree.Check(l); e != api.OK {
		t.Fatalf("the test is wrong: %v", e)
	}
	p, e := proc.Make(l, s, paths...)
	if e != api.OK {
		t.Fatalf("P1701: Make(%v): %v", paths, e)
	}
	return p
}

// bare is a process of these binds, whether Make would make it or not.
func bare(binds ...string) proc.Process { return proc.Process{Binds: binds, State: cpu.New()} }

// ends holds a run of a process to how it ends: what it told, and a fault.
func ends(t *testing.T, what string, l []api.Node, s monitor.Subject, p proc.Process, want api.Errno, told ...int64) outcome {
	t.Helper()
	o := holds(t, what, l, s, p, 100)
	if o.e != want || !o.over || !slices.Equal(o.told, told) {
		t.Errorf("P1702: %s: %v, over %t, told %v; not %v, told %v", what, o.e, o.over, o.told, want, told)
	}
	return o
}

func TestTheTestsOwnTelling(t *testing.T) {
	for _, a := range lattice() {
		for _, b := range lattice() {
			if over(a, b) != label.Over(a, b) || label.Check(a) != api.OK {
				t.Fatalf("the test is wrong: %v, %v", a, b)
			}
		}
	}
	for _, i := range []api.Instr{{Op: isa.Halt}, {Op: isa.Out, P: 3, N: -1}, {Op: isa.Call, P: 1, N: math.MinInt32}} {
		if w, e := isa.Encode(i); e != api.OK || w != in(i.Op, i.P, i.N) {
			t.Fatalf("the test is wrong: %v", i)
		}
	}
	if p := ptr(3, 9, 5); isa.EncodePointer(p) != pw(3, 9, 5) {
		t.Fatalf("the test is wrong: %v", p)
	}
}

// P1701

func TestMakeHowMany(t *testing.T) { // P1701, P4, P6: the count ahead of all else
	l := with(halt())
	for _, p := range []string{"/p", "/d", "/", "/no", "", "no path", strings.Repeat("/a", 40)} {
		for _, count := range []int{0, 5, 6, 17, 1000} {
			q, e := proc.Make(l, ann(), slices.Repeat([]string{p}, count)...)
			if e != api.ErrArg || !sameProcess(q, proc.Process{}) {
				t.Errorf("P1701: Make of %d times %q: %+v, %v", count, p, q, e)
			}
		}
	}
	if q, e := proc.Make(nil, sub("", top())); e != api.ErrArg || !sameProcess(q, proc.Process{}) {
		t.Errorf("P1701: Make of no path in no tree: %+v, %v", q, e)
	}
	for count := 1; count <= 4; count++ {
		made(t, l, ann(), slices.Repeat([]string{"/p"}, count)...)
	}
}

func TestMakeMakes(t *testing.T) { // P1701: the paths, in their order, and a new processor's State
	l := with(halt())
	for _, paths := range [][]string{{"/p"}, {"/d"}, {"/p", "/d"}, {"/d", "/p"}, {"/p", "/p"}, {"/p", "/d", "/p"}, {"/p", "/f", "/e", "/d"}, {"/d", "/e", "/f", "/p"}, {"/e", "/d", "/d", "/e"}, {"/f", "/f", "/f", "/f"}} {
		p := made(t, l, ann(), paths...)
		if !slices.Equal(p.Binds, paths) || !sameState(p.State, cpu.New()) || p.State.Ring != 4 || p.State.P != [4]api.Pointer{ptr(0, 0, 4), ptr(1, 0, 4), ptr(2, 0, 4), ptr(3, 0, 4)} {
			t.Errorf("P1701: Make(%v): %+v", paths, p)
		}
	}
}

func TestMakeAsksModes(t *testing.T) { // P1701, W4: the first is executed, each other one read; no other mode counts
	for _, user := range []string{"ann", "bob"} {
		for own := range 8 {
			for others := range 8 {
				var list []api.Grant
				for _, g := range []api.Grant{grant("*", others), grant("ann", own)} {
					if g.Modes > 0 {
						list = append(list, g)
					}
				}
				has := others
				if user == "ann" && own > 0 {
					has = own
				}
				l := treeOf(seg("/p", bottom(), every(7)), seg("/s", bottom(), list))
				for _, paths := range [][]string{{"/s"}, {"/s", "/p"}, {"/p", "/s"}, {"/p", "/p", "/s"}, {"/p", "/p", "/p", "/s"}, {"/p", "/p", "/s", "/p"}, {"/s", "/s"}} {
					want := api.OK
					if paths[0] == "/s" && has&4 == 0 || slices.Contains(paths[1:], "/s") && has&1 == 0 {
						want = api.ErrAcl
					}
					if p, e := proc.Make(l, sub(user, bottom()), paths...); e != want || (e == api.OK) != (len(p.Binds) > 0) {
						t.Errorf("P1701: Make(%v) by %s, list %v: %+v, %v, not %v", paths, user, list, p, e, want)
					}
				}
			}
		}
	}
}

func TestMakeAsksLabels(t *testing.T) { // P1701, W1: of whom the subject's label is over
	for _, at := range lattice() {
		for _, up := range lattice() {
			l := treeOf(dir("/h", up, every(7)), seg("/h/s", up, every(7)), seg("/p", bottom(), every(7)))
			for _, x := range []struct {
				paths []string
				dir   bool
			}{{[]string{"/h/s"}, false}, {[]string{"/p", "/h/s"}, false}, {[]string{"/p", "/p", "/p", "/h/s"}, false}, {[]string{"/h"}, true}, {[]string{"/p", "/h"}, true}} {
				want := api.OK
				switch {
				case !over(at, up):
					want = api.ErrLabel
				case x.dir:
					want = api.ErrKind
				}
				if _, e := proc.Make(l, sub("ann", at), x.paths...); e != want {
					t.Errorf("P1701: Make(%v) of %v at %v: %v, not %v", x.paths, up, at, e, want)
				}
			}
		}
	}
}

// wrongs are paths of a tree, each of which may not be bound, and by which error: as the first, and as another one.
func wrongs() (l []api.Node, paths map[string]api.Errno) {
	l = treeOf(seg("/p", bottom(), every(7), halt()), seg("/none", bottom(), nil), seg("/put", bottom(), every(2)), dir("/dir", bottom(), every(7)), dir("/shut", bottom(), nil), dir("/up", high(), every(7)), seg("/up/s", high(), every(7)))
	return l, map[string]api.Errno{
		"": api.ErrArg, "p": api.ErrArg, "/P": api.ErrArg, "/p/": api.ErrArg, "//p": api.ErrArg, "/abcdefghijklm": api.ErrArg, "/a/a/a/a/a/a/a": api.ErrArg, "/p\xff": api.ErrArg,
		strings.Repeat("/a", 40): api.ErrLong, "/" + strings.Repeat("a", 78): api.ErrLong, strings.Repeat("x", 79): api.ErrLong,
		"/x": api.ErrNone, "/dir/x": api.ErrNone, "/x/x": api.ErrNone,
		"/p/x": api.ErrKind, "/none/x/y": api.ErrKind,
		"/up": api.ErrLabel, "/up/s": api.ErrLabel, "/up/x": api.ErrLabel,
		"/none": api.ErrAcl, "/put": api.ErrAcl, "/shut": api.ErrAcl,
		"/": api.ErrKind, "/dir": api.ErrKind,
	}
}

func TestMakeTellsErrorsOfMay(t *testing.T) { // P1701, P4: for the first path, and for each other one
	l, paths := wrongs()
	if e := tree.Check(l); e != api.OK {
		t.Fatalf("the test is wrong: %v", e)
	}
	for p, want := range paths {
		for count := 1; count <= 4; count++ {
			for k := range count {
				row := slices.Repeat([]string{"/p"}, count)
				row[k] = p
				if q, e := proc.Make(l, ann(), row...); e != want || !sameProcess(q, proc.Process{}) {
					t.Errorf("P1701: Make(%q): %+v, %v, not %v", row, q, e, want)
				}
			}
		}
	}
}

func TestMakeErrorsInOrder(t *testing.T) { // P1701, P6: path by path; of each May's ahead of ErrKind
	l, paths := wrongs()
	for a, first := range paths {
		for b := range paths {
			for _, x := range []struct {
				row  []string
				want api.Errno
			}{{[]string{a, b}, first}, {[]string{"/p", a, b}, first}, {[]string{"/p", a, "/p", b}, first}, {[]string{a, "/p", b, b}, first}, {[]string{a, b, b, b, b}, api.ErrArg}} {
				if q, e := proc.Make(l, ann(), x.row...); e != x.want || !sameProcess(q, proc.Process{}) {
					t.Errorf("P6: Make(%q): %+v, %v, not %v", x.row, q, e, x.want)
				}
			}
		}
	}
	for _, x := range []struct {
		list []api.Grant
		at   api.Label
		row  []string
		want api.Errno
	}{
		{every(3), bottom(), []string{"/s"}, api.ErrAcl}, {every(4), bottom(), []string{"/s"}, api.ErrKind}, {every(4), bottom(), []string{"/p", "/s"}, api.ErrAcl}, {every(1), bottom(), []string{"/p", "/s"}, api.ErrKind},
		{every(3), high(), []string{"/s"}, api.ErrLabel}, {every(7), high(), []string{"/p", "/s"}, api.ErrLabel},
	} {
		l := treeOf(dir("/s", x.at, x.list), seg("/p", bottom(), every(7)))
		if _, e := proc.Make(l, ann(), x.row...); e != x.want {
			t.Errorf("P6: Make(%q) of a directory at %v, %v: %v, not %v", x.row, x.at, x.list, e, x.want)
		}
	}
}

func TestMakeAsksNoWordsAndNoRings(t *testing.T) { // P1701: whether it can run is the processor's
	for _, b := range []api.Rings{br(0, 0, 0, 0), br(7, 7, 7, 16), open(), br(0, 7, 7, 0)} {
		for _, words := range [][]int64{nil, {-1}, {halt()}, slices.Repeat([]int64{math.MinInt64}, 16)} {
			n := seg("/s", bottom(), every(5), words...)
			n.Rings = b
			made(t, treeOf(n), ann(), "/s", "/s")
		}
	}
}

func TestMakeMemory(t *testing.T) { // P1701, P2, P3, P7: nothing that was handed in is changed or kept; nobody else has what is made
	for _, paths := range [][]string{{"/p"}, {"/p", "/d", "/e", "/d"}, {"/p", "/no"}, {"/p", "/"}, {"/p", "/d", "/d", "/d", "/d"}, {}} {
		l, row := roomy(with(halt())), spare(paths, "/spare")
		wasL, wasRow := all(l), slices.Clone(room(row))
		p, e := proc.Make(l, ann(), row...)
		q, again := proc.Make(l, ann(), row...)
		if e != again || !sameProcess(p, q) || e != wantMake(l, ann(), paths) {
			t.Errorf("P3: Make(%v): %+v, %v, then %+v, %v", paths, p, e, q, again)
		}
		kept := deepProcess(p)
		if !sameNodes(all(l), wasL) || !slices.Equal(room(row), wasRow) {
			t.Errorf("P2: Make(%v): what was handed in is changed", paths)
		}
		scrawl(l, proc.Process{Binds: row})
		scrawl(nil, q)
		if !sameProcess(p, kept) {
			t.Errorf("P2: Make(%v): what was made is changed by others: %+v, not %+v", paths, p, kept)
		}
		scrawl(nil, p)
		if slices.ContainsFunc(room(row), func(s string) bool { return s != "scrawl" }) {
			t.Errorf("P2: Make(%v): it shares the paths that were handed in", paths)
		}
	}
}

// P1702: how many steps

// counting is a program that goes on for good, and whose A is how often it went round; two steps each.
func counting() []int64 { return []int64{in(isa.Add, 1, 0), in(isa.Jmp, 0, 0)} }

func TestRunRefusesN(t *testing.T) { // P1702, P4, P9
	for _, l := range [][]api.Node{with(halt()), with(counting()...), with(), nil} {
		for _, n := range []int{-1, -2, -100, 101, 102, 200, 256, 1 << 31, 1 << 32, 1<<32 + 1, math.MaxInt64, math.MinInt64, math.MinInt64 + 1} {
			if o := run(t, l, ann(), bare("/p", "/d"), n); !o.same(outcome{e: api.ErrArg}) {
				t.Errorf("P1702: Run of %d steps: %+v", n, o)
			}
		}
	}
}

func TestRunOfNoSteps(t *testing.T) { // P1702: all is as it was, whatever it would meet
	l := with(halt())
	deepIn := cpu.State{Seg: 2, Off: 9, Ring: 6, A: -5, P: [4]api.Pointer{ptr(9, 8, 7), ptr(1, 2, 3), {}, ptr(0, 0, 5)}, Stack: []cpu.Frame{{Seg: 1, Off: 2, Ring: 3}, {Seg: 3, Off: 4, Ring: 5}}}
	for _, p := range []proc.Process{made(t, l, ann(), "/p"), made(t, l, ann(), "/p", "/d", "/p", "/d"), {Binds: []string{"/p", "/d"}, State: deepIn}, bare("/no"), bare("/"), bare("/no/path/", "")} {
		for _, nodes := range [][]api.Node{l, with(-1), treeOf(), nil} {
			if o := run(t, nodes, ann(), p, 0); !o.same(outcome{nodes: nodes, p: p}) {
				t.Errorf("P1702: Run of no steps of %+v: %+v", p, o)
			}
		}
	}
}

func TestExample(t *testing.T) { // the chapter's example 1
	l := with(halt())
	p := made(t, l, ann(), "/p")
	want := deepProcess(p)
	want.State.Halted, want.State.Off = true, 1
	for _, n := range []int{1, 2, 100} {
		if o := run(t, l, ann(), p, n); !o.same(outcome{nodes: l, p: want, over: true}) {
			t.Errorf("P1702: Halt: Run of %d steps: %+v", n, o)
		}
	}
}

func TestJustSoManySteps(t *testing.T) { // P1702: where it goes on, from 0 to MaxSteps
	l := with(counting()...)
	l[1].Words[0] = 1
	p := made(t, l, ann(), "/p", "/d")
	for n := range 101 {
		o := holds(t, "counting", l, ann(), p, n)
		if o.over || o.e != api.OK || o.p.State.A != int64((n+1)/2) || o.p.State.Off != n%2 || len(o.told) != 0 {
			t.Errorf("P1702: %d steps: %+v", n, o)
		}
	}
}

// ahead are k steps that tell 1, 2, .. (at the most 14 words), and then the last one.
func ahead(k int, last int64) []int64 {
	var l []int64
	for i := range k {
		if i%2 == 0 {
			l = append(l, in(isa.Ldi, 0, i/2+1))
		} else {
			l = append(l, out())
		}
	}
	return append(l, last)
}

func TestFewerSteps(t *testing.T) { // P1702: a halt, a fault ahead of the n-th; over and its fault, not ahead of them
	for k := range 15 {
		for last, fault := range map[int64]api.Errno{halt(): api.OK, -1: api.ErrOp, in(isa.Ret, 0, 0): api.ErrStack, in(isa.Lda, 3, 0): api.ErrBound, in(isa.Jmp, 0, 16): api.ErrBound} {
			l := with(ahead(k, last)...)
			p := made(t, l, ann(), "/p")
			steps := k + 1 // till it is over
			if last == in(isa.Jmp, 0, 16) {
				steps++ // it faults where it is fetched
			}
			for _, n := range []int{0, 1, k - 1, k, k + 1, k + 2, k + 3, 50, 99, 100} {
				if n < 0 {
					continue
				}
				o := holds(t, "so many steps ahead", l, ann(), p, n)
				over, want := n >= steps, api.OK
				if over {
					want = fault
				}
				if o.over != over || o.e != want || o.p.State.Halted != (over && fault == api.OK) || len(o.told) != min(n, k)/2 {
					t.Errorf("P1702: %d steps of %d, then %x: %+v", n, k, uint64(last), o)
				}
			}
		}
	}
}

func TestStateBesideFault(t *testing.T) { // P1702: that ahead of the step that met it; met again, it is the same
	l := with(in(isa.Ldi, 0, 9), in(isa.Call, 0, 3), halt(), in(isa.Lda, 3, 0), out())
	o := ends(t, "a fault in a call", l, ann(), made(t, l, ann(), "/p"), api.ErrBound)
	want := cpu.New()
	want.A, want.Off, want.Stack = 9, 3, []cpu.Frame{{Seg: 0, Off: 2, Ring: 4}}
	if !sameState(o.p.State, want) || !slices.Equal(o.p.Binds, []string{"/p"}) {
		t.Errorf("P1702: beside a fault: %+v", o.p)
	}
	for _, n := range []int{1, 100} {
		if again := run(t, o.nodes, ann(), o.p, n); !again.same(o) {
			t.Errorf("P1702: once more: %+v, not %+v", again, o)
		}
	}
	if on := run(t, tree.Put(l, seg("/p", bottom(), every(7), 0, 0, 0, out(), halt())), ann(), o.p, 100); on.e != api.OK || !slices.Equal(on.told, []int64{9}) {
		t.Errorf("P1702: where what it fell over is gone, it goes on: %+v", on)
	}
}

func TestRunInParts(t *testing.T) { // P1702: a and b steps are as a + b
	sums := []int64{in(isa.Lda, 1, 0), in(isa.Add, 1, 1), in(isa.Sta, 1, 0), out(), in(isa.Call, 0, 6), in(isa.Jmp, 0, 0), in(isa.Add, 2, 0), in(isa.Sta, 2, 0), out(), in(isa.Ret, 0, 0)}
	for what, words := range map[string][]int64{"for good": sums, "to a halt": ahead(13, halt()), "to a fault": ahead(12, -1)} {
		l := with(words...)
		p := made(t, l, ann(), "/p", "/d", "/e")
		for sum := range 101 {
			whole := holds(t, what, l, ann(), p, sum)
			for a := range sum + 1 {
				inParts(t, l, ann(), p, a, sum, whole)
			}
		}
	}
}

// P1702: the memory

// loading loads the word at P[1] + n, and tells it.
func loading(n int) []int64 { return []int64{in(isa.Lda, 1, n), out(), halt()} }

func TestSegmentsAreTheBinds(t *testing.T) { // P1702: by their numbers; behind them there is none
	paths := []string{"/p", "/d", "/e", "/f"}
	for count := 1; count <= 4; count++ {
		for k := range 4 {
			l := with(in(isa.Lda, k, 0), out(), halt())
			p := made(t, l, ann(), paths[:count]...)
			if k >= count {
				ends(t, "a bind that there is none of", l, ann(), p, api.ErrBound)
				continue
			}
			n, _ := find(l, paths[k])
			ends(t, "a bind", l, ann(), p, api.OK, n.Words[0])
		}
	}
	for _, k := range []int{4, 5, 255, 256, 65535} { // no register leads there by itself
		for _, last := range []int64{in(isa.Lda, 2, 0), in(isa.Sta, 2, 0), in(isa.Ldp, 2, 0), in(isa.Call, 2, 0)} {
			l := with(in(isa.Lda, 1, 0), in(isa.Setp, 2, 0), last, halt())
			l[1].Words[0] = pw(k, 0, 4)
			ends(t, "a pointer to farther on", l, ann(), made(t, l, ann(), "/p", "/d", "/e", "/f"), api.ErrBound)
		}
	}
	for _, k := range []int{-1, -4, 1, 4, math.MaxInt64, math.MinInt64} {
		p := bare("/p")
		p.State.Seg = k
		ends(t, "the processor is nowhere", with(halt()), ann(), p, api.ErrBound)
	}
	for k, want := range []int64{in(isa.Ldp, 1, 0), pw(1, 0, 0), 40, 60} { // a pointer that was read leads by the same numbers
		l := with(in(isa.Ldp, 1, 0), in(isa.Lda, 1, 0), out(), halt())
		l[1].Words[0] = pw(k, 0, 0)
		ends(t, "a pointer that was read", l, ann(), made(t, l, ann(), paths...), api.OK, want)
	}
}

// reference is an instruction that asks for the first word of the segment of number 1: the mode that it needs, and its fault without.
type reference struct {
	w       int64
	need    int
	without api.Errno
}

func references() []reference {
	return []reference{{in(isa.Lda, 1, 0), 1, api.ErrRead}, {in(isa.Ldp, 1, 0), 1, api.ErrRead}, {in(isa.Fless, 1, 0), 1, api.ErrRead}, {in(isa.Sta, 1, 0), 2, api.ErrWrite}, {in(isa.Call, 1, 0), 4, api.ErrExec}}
}

func (r reference) fault(modes int) api.Errno {
	if modes&r.need == 0 {
		return r.without
	}
	return api.OK
}

func (r reference) String() string { return isa.Text(api.Instr{Op: int(r.w >> 56), P: 1}) }

// changed is a tree with a node's list, rings or words changed.
func changed(l []api.Node, p string, change func(n *api.Node)) []api.Node {
	n, _ := tree.Find(l, p)
	change(&n)
	return tree.Put(l, n)
}

func TestGoneSinceMake(t *testing.T) { // P1702: of a node that is not there, or is a directory now, there is none
	for _, r := range references() {
		l := with(out(), r.w, halt())
		p := made(t, l, ann(), "/p", "/d")
		for _, path := range []string{"/p", "/d"} {
			told := []int64{0}
			if path == "/p" {
				told = nil
			}
			ends(t, path+" is gone", tree.Drop(l, path), ann(), p, api.ErrBound, told...)
			ends(t, path+" is a directory", tree.Put(l, dir(path, bottom(), every(7))), ann(), p, api.ErrBound, told...)
			ends(t, path+" is a directory above", tree.Put(l, dir(path, high(), every(7))), ann(), p, api.ErrBound, told...)
		}
		ends(t, "all is gone", treeOf(), ann(), p, api.ErrBound)
	}
	for _, binds := range [][]string{{"/"}, {"/p", "/"}, {"/", "/p"}} { // not that Make makes such
		ends(t, "/ is no segment", with(in(isa.Lda, 1, 0), halt()), ann(), bare(binds...), api.ErrBound)
	}
}

func TestReplacedByAnother(t *testing.T) { // P1702: the node that is there then counts: its list, its rings, its words
	l := with(loading(0)...)
	p := made(t, l, ann(), "/p", "/d")
	n := seg("/d", bottom(), []api.Grant{grant("ann", 1)}, 99)
	n.Rings, n.By = br(0, 4, 7, 3), top()
	ends(t, "other data", tree.Put(l, n), ann(), p, api.OK, 99)
	ends(t, "no words any more", tree.Put(l, seg("/d", bottom(), every(7))), ann(), p, api.ErrBound)
	ends(t, "no program any more", tree.Put(l, seg("/p", bottom(), every(7))), ann(), p, api.ErrBound)
	o := holds(t, "one step", l, ann(), p, 1)
	ends(t, "another program", tree.Put(o.nodes, seg("/p", bottom(), every(4), -1, in(isa.Ldi, 0, 7), out(), halt())), ann(), o.p, api.OK, 7)
}

// down is a tree in which data lie farther down, for a subject at high.
func down(program ...int64) []api.Node {
	return treeOf(seg("/p", bottom(), every(5), program...), dir("/a", bottom(), every(7)), dir("/a/b", high(), every(7)), dir("/a/b/c", high(), nil), seg("/a/b/c/s", high(), every(7), 5, 6))
}

func TestNoLongerSeenOnItsWay(t *testing.T) { // P1702
	s := sub("ann", high())
	for _, r := range references() {
		l := down(out(), r.w, halt())
		p := made(t, l, s, "/p", "/a/b/c/s")
		program, _ := find(l, "/p")
		for what, now := range map[string][]api.Node{
			"above, from /a/b on":   {dir("/a", bottom(), every(7)), dir("/a/b", higher(), every(7)), dir("/a/b/c", higher(), every(7)), seg("/a/b/c/s", higher(), every(7), 5, 6)},
			"above, from /a/b/c on": {dir("/a", bottom(), every(7)), dir("/a/b", high(), every(7)), dir("/a/b/c", higher(), every(7)), seg("/a/b/c/s", higher(), every(7), 5, 6)},
			"beside, from /a on":    {dir("/a", aside(), every(7)), dir("/a/b", top(), every(7)), dir("/a/b/c", top(), every(7)), seg("/a/b/c/s", top(), every(7), 5, 6)},
			"no way":                {},
			"the way's end is gone": {dir("/a", bottom(), every(7)), dir("/a/b", high(), every(7))},
			"a segment on the way":  {seg("/a", bottom(), every(7), 5, 6)},
		} {
			now = treeOf(append(now, program)...)
			if e := tree.Check(now); e != api.OK {
				t.Fatalf("the test is wrong: %s: %v", what, e)
			}
			ends(t, what, now, s, p, api.ErrBound, 0)
		}
	}
	l := down(loading(1)...)
	p := made(t, l, s, "/p", "/a/b/c/s")
	for _, at := range lattice() { // who runs it now is asked, not who made it
		if over(at, high()) {
			ends(t, "from above", l, sub("ann", at), p, api.OK, 6)
		} else {
			ends(t, "not from there", l, sub("ann", at), p, api.ErrBound)
		}
	}
	l = tree.Put(tree.Put(l, dir("/a", bottom(), nil)), dir("/a/b", high(), nil))
	ends(t, "lists on the way are not asked", l, s, p, api.OK, 6)
}

func TestModesAsTheyAreNow(t *testing.T) { // P1702, W4: one by one, of the user's grant, or else of that of `*`
	for _, r := range references() {
		l := changed(with(out(), r.w, halt()), "/d", func(n *api.Node) { n.Words[0] = halt() })
		p := made(t, l, ann(), "/p", "/d")
		for own := range 8 {
			for others := range 8 {
				var list []api.Grant
				has := others
				if others > 0 {
					list = every(others)
				}
				if own > 0 {
					list, has = append(list, grant("ann", own)), own
				}
				set := func(n *api.Node) { n.Acl = list }
				ends(t, fmt.Sprint(r, ": data with ", list), changed(l, "/d", set), ann(), p, r.fault(has), 0)
				if has&4 == 0 {
					ends(t, fmt.Sprint(r, ": a program with ", list), changed(l, "/p", set), ann(), p, api.ErrExec)
				} else {
					ends(t, fmt.Sprint(r, ": a program with ", list), changed(l, "/p", set), ann(), p, api.OK, 0)
				}
			}
		}
	}
}

func TestModesTakenAwayBetween(t *testing.T) { // P1702, W4: gone at once, and there again when given again
	for _, r := range references() {
		words, first := []int64{r.w, out(), in(isa.Jmp, 0, 0)}, pw(1, 0, 4) // three steps each time round
		if r.need == api.MExec {
			words, first = []int64{r.w, in(isa.Jmp, 0, 0)}, in(isa.Ret, 0, 0)
		}
		l := changed(with(words...), "/d", func(n *api.Node) { n.Words[0] = first })
		o := outcome{nodes: l, p: made(t, l, ann(), "/p", "/d")}
		for _, modes := range []int{7, 7 - r.need, r.need, 7 - r.need, 7 - r.need, 7, 7} {
			now := changed(o.nodes, "/d", func(n *api.Node) { n.Acl = every(modes) })
			x := holds(t, fmt.Sprint(r, " with modes ", modes), now, ann(), o.p, 6)
			if modes&r.need == 0 {
				if !x.over || x.e != r.without || len(x.told) != 0 || !sameProcess(x.p, o.p) || !sameNodes(x.nodes, now) {
					t.Errorf("P1702: %v with modes %d: %+v", r, modes, x)
				}
				continue
			}
			if x.over || x.e != api.OK || x.p.State.Off != 0 {
				t.Errorf("P1702: %v with modes %d: %+v", r, modes, x)
			}
			o = x
		}
		ends(t, "the program's own", changed(o.nodes, "/p", func(n *api.Node) { n.Acl = every(3) }), ann(), o.p, api.ErrExec)
		ends(t, "the program is gone", tree.Drop(o.nodes, "/p"), ann(), o.p, api.ErrBound)
	}
}

func TestModesOfLabels(t *testing.T) { // P1702, T2: read and executed from above, written at the very label alone, whatever the list has
	for _, at := range lattice() {
		for _, up := range lattice() {
			for _, r := range references() {
				l := treeOf(seg("/p", bottom(), every(7), in(isa.Ldi, 0, 7), r.w, halt()), dir("/h", up, every(7)), seg("/h/s", up, every(7), halt()))
				want := api.ErrBound
				switch {
				case at == up:
					want = api.OK
				case over(at, up):
					want = r.fault(5)
				}
				o := ends(t, fmt.Sprint(r, ": ", up, " from ", at), l, sub("ann", at), bare("/p", "/h/s"), want)
				if s, _ := find(o.nodes, "/h/s"); (s.Words[0] == 7) != (r.need == api.MWrite && at == up) {
					t.Errorf("T2: %v: %v from %v: %v", r, up, at, s.Words)
				}
			}
		}
	}
}

func TestRingsAsTheyAreThen(t *testing.T) { // P1702, T4: of the program, and of data
	for r1 := range 8 {
		for r2 := r1; r2 < 8; r2++ {
			for r3 := r2; r3 < 8; r3++ {
				for _, r := range references() {
					l := changed(with(out(), r.w, halt()), "/d", func(n *api.Node) { n.Words[0] = halt() })
					p := made(t, l, ann(), "/p", "/d")
					want := api.OK
					switch {
					case r.need == api.MRead && r2 < 4, r.need == api.MWrite && r1 < 4:
						want = r.without
					case r.need == api.MExec && r2 < 4:
						want = api.ErrGate // it has none
					}
					set := func(n *api.Node) { n.Rings = br(r1, r2, r3, 0) }
					ends(t, fmt.Sprint(r, ": data in ", r1, r2, r3), changed(l, "/d", set), ann(), p, want, 0)
					if r1 <= 4 && 4 <= r2 {
						ends(t, fmt.Sprint(r, ": a program in ", r1, r2, r3), changed(l, "/p", set), ann(), p, api.OK, 0)
					} else {
						ends(t, fmt.Sprint(r, ": a program in ", r1, r2, r3), changed(l, "/p", set), ann(), p, api.ErrExec)
					}
				}
			}
		}
	}
}

// gated is a tree in which the data /s may be read up to ring 2 alone, and /g by its gate does so: it makes itself a pointer of the word behind the caller's Halt.
func gated(gates int, program ...int64) []api.Node {
	gate := seg("/g", bottom(), every(4), in(isa.Ldi, 0, 3), in(isa.Setp, 3, 0), in(isa.Lda, 3, 0), in(isa.Setp, 3, 0), in(isa.Lda, 3, 0), in(isa.Ret, 0, 0))
	gate.Rings = br(1, 2, 5, gates)
	data := seg("/s", bottom(), every(7), 42)
	data.Rings = br(2, 2, 2, 0)
	return treeOf(seg("/p", bottom(), every(5), program...), gate, data)
}

func TestThroughGates(t *testing.T) { // P1702, T4
	call := []int64{in(isa.Call, 1, 0), out(), halt(), pw(2, 0, 0)}
	p := bare("/p", "/g", "/s")
	o := ends(t, "through a gate", gated(1, call...), ann(), p, api.OK, 42)
	if o.p.State.Ring != 4 || len(o.p.State.Stack) != 0 {
		t.Errorf("P1702: behind the call: %+v", o.p)
	}
	ends(t, "the gate is closed", gated(0, call...), ann(), p, api.ErrGate)
	ends(t, "behind the gates", gated(1, in(isa.Call, 1, 1), out(), halt(), pw(2, 0, 0)), ann(), p, api.ErrGate)
	ends(t, "by oneself", gated(1, in(isa.Lda, 2, 0), out(), halt()), ann(), p, api.ErrRead)
	ends(t, "by a pointer of one's own", gated(1, in(isa.Lda, 0, 5), in(isa.Setp, 3, 0), in(isa.Lda, 3, 0), out(), halt(), pw(2, 0, 0)), ann(), p, api.ErrRead)
	within := holds(t, "as far as behind the gate", gated(1, call...), ann(), p, 3)
	if within.over || within.p.State.Ring != 2 || len(within.p.State.Stack) != 1 {
		t.Fatalf("P1702: behind the gate: %+v", within)
	}
	ends(t, "in ring 2 between two runs", within.nodes, ann(), within.p, api.OK, 42)
	ends(t, "data for ring 1 now", changed(within.nodes, "/s", func(n *api.Node) { n.Rings = br(1, 1, 1, 0) }), ann(), within.p, api.ErrRead)
	ends(t, "a gate of ring 1 now", changed(within.nodes, "/g", func(n *api.Node) { n.Rings = br(1, 1, 5, 1) }), ann(), within.p, api.ErrExec)
}

// P1702: writes

func TestWriteChangesThatWord(t *testing.T) { // P1702: of that node, and nothing else
	for size := 1; size <= 16; size++ {
		for off := -1; off <= size; off++ {
			for _, k := range []int{1, 2, 3} {
				words := make([]int64, size)
				for i := range words {
					words[i] = int64(100 + i)
				}
				l := with(in(isa.Ldi, 0, -7), in(isa.Sta, k, off), halt())
				for _, p := range []string{"/d", "/e", "/f"} {
					l = changed(l, p, func(n *api.Node) { n.Words, n.Acl = words, []api.Grant{grant("*", 3), grant("bob", 1)} })
				}
				p := made(t, l, ann(), "/p", "/d", "/e", "/f")
				if off < 0 || off == size {
					o := ends(t, "no such word", l, ann(), p, api.ErrBound)
					if !sameNodes(o.nodes, l) {
						t.Errorf("P1702: no such word: %+v", o.nodes)
					}
					continue
				}
				o := ends(t, "a word", l, ann(), p, api.OK)
				if want := changed(l, p.Binds[k], func(n *api.Node) { n.Words[off] = -7 }); !sameNodes(o.nodes, want) {
					t.Errorf("P1702: word %d of %d: %+v, not %+v", off, size, o.nodes, want)
				}
			}
		}
	}
}

func TestWhatWasWrittenIsReadAgain(t *testing.T) { // P1702: in the next steps, by each bind of that node; as a word, a pointer, an instruction
	adding := []int64{in(isa.Lda, 1, 0), in(isa.Add, 1, 1), in(isa.Sta, 1, 0), in(isa.Ldi, 0, 0), in(isa.Lda, 1, 0), out(), in(isa.Jmp, 0, 0)}
	l := with(adding...)
	o := holds(t, "adding", l, ann(), made(t, l, ann(), "/p", "/d"), 28)
	if !slices.Equal(o.told, []int64{30, 50, 70, 90}) || o.nodes[1].Words[0] != 90 {
		t.Errorf("P1702: adding: %+v", o)
	}
	twice := with(in(isa.Ldi, 0, 5), in(isa.Sta, 1, 1), in(isa.Lda, 2, 1), out(), in(isa.Ldi, 0, 6), in(isa.Sta, 3, 1), in(isa.Lda, 1, 1), out(), halt())
	p := made(t, twice, ann(), "/p", "/d", "/d", "/d")
	o = ends(t, "bound three times", twice, ann(), p, api.OK, 5, 6)
	if want := changed(twice, "/d", func(n *api.Node) { n.Words[1] = 6 }); !sameNodes(o.nodes, want) {
		t.Errorf("P1702: bound three times: %+v", o.nodes)
	}
	itself := with(in(isa.Lda, 0, 5), in(isa.Sta, 1, 3), in(isa.Ldi, 0, 9), halt(), halt(), out())
	o = ends(t, "a program that writes itself", itself, ann(), made(t, itself, ann(), "/p", "/p"), api.OK, 9)
	if want := changed(itself, "/p", func(n *api.Node) { n.Words[3] = out() }); !sameNodes(o.nodes, want) {
		t.Errorf("P1702: a program that writes itself: %+v", o.nodes)
	}
	pointer := with(in(isa.Lda, 2, 0), in(isa.Sta, 1, 0), in(isa.Ldp, 1, 0), in(isa.Lda, 1, 0), out(), halt())
	pointer = changed(pointer, "/e", func(n *api.Node) { n.Words[0] = pw(3, 0, 0) })
	ends(t, "a pointer that was written", pointer, ann(), made(t, pointer, ann(), "/p", "/d", "/e", "/f"), api.OK, 60)
}

func TestNodesThatShareWords(t *testing.T) { // P1702, P2: in what is handed in one row may stand twice: a write is of one node, and lists of one answer share none
	words := []int64{in(isa.Ldi, 0, 5), in(isa.Sta, 1, 3), halt(), 0}
	list := every(7)
	l := treeOf(seg("/p", bottom(), list, words...), seg("/d", bottom(), list, words...), seg("/e", bottom(), list, words...))
	l[0].Acl = list
	nodes, _, _, _, e := proc.Run(l, ann(), bare("/p", "/d", "/d"), 100)
	if want := changed(l, "/d", func(n *api.Node) { n.Words[3] = 5 }); e != api.OK || !sameNodes(nodes, want) || words[3] != 0 {
		t.Fatalf("P1702: %+v, %v, and %v, not %+v", nodes, e, words, want)
	}
	for i := range nodes {
		was := deep(nodes)
		fill(nodes[i].Words, -99)
		fill(nodes[i].Acl, grant("scrawl", 99))
		was[i].Words, was[i].Acl = nodes[i].Words, nodes[i].Acl
		if !sameNodes(nodes, was) {
			t.Errorf("P2: node %d shares memory with another one", i)
		}
	}
}

func TestProcessBehindIsItsOwn(t *testing.T) { // P2: its stack and its Binds, of whichever run
	l := with(in(isa.Call, 0, 1), in(isa.Call, 0, 2), in(isa.Ret, 0, 0), halt())
	p := made(t, l, ann(), "/p")
	for first := range 3 {
		_, a, _, _, _ := proc.Run(l, ann(), p, first)
		was := deepProcess(a)
		for second := range 5 {
			_, b, _, _, _ := proc.Run(l, ann(), a, second)
			wasB := deepProcess(b)
			_, c, _, _, _ := proc.Run(l, ann(), a, second)
			scrawl(nil, c)
			if !sameProcess(a, was) || !sameProcess(b, wasB) {
				t.Fatalf("P2: %d steps, then %d: %+v, %+v, not %+v, %+v", first, second, a, b, was, wasB)
			}
		}
	}
}

// P1702: what is told

func TestTold(t *testing.T) { // P1702: in order: none, one, many, as many as there are steps
	for count := range 16 {
		words := append(slices.Repeat([]int64{out()}, count), halt())
		l := with(words...)
		p := made(t, l, ann(), "/p")
		p.State.A = math.MinInt64
		ends(t, "the same again and again", l, ann(), p, api.OK, slices.Repeat([]int64{math.MinInt64}, count)...)
	}
	l := changed(with(in(isa.Add, 1, 0), out(), in(isa.Jmp, 0, 0)), "/d", func(n *api.Node) { n.Words[0] = -1 })
	o := holds(t, "downward", l, ann(), made(t, l, ann(), "/p", "/d"), 100)
	if o.over || len(o.told) != 33 || o.told[0] != -1 || o.told[32] != -33 || o.p.State.A != -34 {
		t.Errorf("P1702: downward: %+v", o)
	}
	l = with(slices.Repeat([]int64{out()}, 16)...)
	l = changed(l, "/p", func(n *api.Node) { n.Words[15] = in(isa.Jmp, 0, 0) })
	if o := holds(t, "told for good", l, ann(), made(t, l, ann(), "/p"), 100); o.over || len(o.told) != 94 {
		t.Errorf("P1702: told for good: %d words", len(o.told))
	}
	for _, w := range []int64{0, 1, -1, math.MaxInt64, math.MinInt64, pw(7, 7, 7)} {
		l := changed(with(loading(0)...), "/d", func(n *api.Node) { n.Words[0] = w })
		ends(t, "a word as it is", l, ann(), made(t, l, ann(), "/p", "/d"), api.OK, w)
	}
}

func TestDoneAndToldAheadOfFault(t *testing.T) { // P1702: it stays, and is answered beside it
	for _, x := range []struct {
		last int64
		want api.Errno
	}{{-1, api.ErrOp}, {in(isa.Lda, 3, 0), api.ErrBound}, {in(isa.Sta, 2, 0), api.ErrWrite}, {in(isa.Ret, 0, 0), api.ErrStack}, {in(isa.Call, 1, -1), api.ErrGate}} {
		l := with(in(isa.Ldi, 0, 5), in(isa.Sta, 1, 0), out(), in(isa.Ldi, 0, 6), out(), in(isa.Sta, 1, 2), x.last, out())
		l = changed(l, "/e", func(n *api.Node) { n.Acl = every(5) })
		o := ends(t, "behind writes", l, ann(), made(t, l, ann(), "/p", "/d", "/e"), x.want, 5, 6)
		want := cpu.New()
		want.Off, want.A = 6, 6
		if nodes := changed(l, "/d", func(n *api.Node) { n.Words = []int64{5, 20, 6} }); !sameNodes(o.nodes, nodes) || !sameState(o.p.State, want) || !slices.Equal(o.p.Binds, []string{"/p", "/d", "/e"}) {
			t.Errorf("P1702: ahead of %v: %+v", x.want, o)
		}
	}
}

// P1702: faults

func TestEachFault(t *testing.T) { // P1702: as chapter 16 has them, of programs in nodes
	low := func(n *api.Node) { n.Rings = br(0, 3, 5, 2) }
	same := func(n *api.Node) {}
	for _, x := range []struct {
		what    string
		change  func(n *api.Node)
		program []int64
		want    api.Errno
	}{
		{"no word to fetch", same, []int64{}, api.ErrBound},
		{"behind the end", same, []int64{in(isa.Ldi, 0, 1)}, api.ErrBound},
		{"behind the end by a jump", same, []int64{in(isa.Jmp, 0, 1)}, api.ErrBound},
		{"ahead of the beginning", same, []int64{in(isa.Jmp, 0, -1)}, api.ErrBound},
		{"no instruction", same, []int64{in(23, 0, 0)}, api.ErrOp},
		{"no pointer 4", same, []int64{in(isa.Out, 4, 0)}, api.ErrOp},
		{"a bit too many", same, []int64{out() | 1<<40}, api.ErrOp},
		{"no number", same, []int64{in(isa.Lda, 0, 2), in(isa.Fix, 0, 0), 0x7FF8000000000001}, api.ErrOp},
		{"no word to read", same, []int64{in(isa.Lda, 1, 3)}, api.ErrBound},
		{"no word to write", same, []int64{in(isa.Sta, 1, -1)}, api.ErrBound},
		{"no word to call", same, []int64{in(isa.Call, 1, 3)}, api.ErrBound},
		{"no bind", same, []int64{in(isa.Add, 2, 0)}, api.ErrBound},
		{"no mode to read", func(n *api.Node) { n.Acl = every(6) }, []int64{in(isa.Mul, 1, 0)}, api.ErrRead},
		{"no ring to read", low, []int64{in(isa.Ldp, 1, 0)}, api.ErrRead},
		{"no mode to write", func(n *api.Node) { n.Acl = every(5) }, []int64{in(isa.Sta, 1, 0)}, api.ErrWrite},
		{"no ring to write", low, []int64{in(isa.Sta, 1, 0)}, api.ErrWrite},
		{"no mode to call", func(n *api.Node) { n.Acl = every(3) }, []int64{in(isa.Call, 1, 0)}, api.ErrExec},
		{"no gate", low, []int64{in(isa.Call, 1, 2)}, api.ErrGate},
		{"above the gates", func(n *api.Node) { n.Rings = br(0, 2, 3, 2) }, []int64{in(isa.Call, 1, 0)}, api.ErrGate},
		{"no offset", same, []int64{in(isa.Call, 1, 16)}, api.ErrGate},
		{"back inward", func(n *api.Node) { n.Rings, n.Words = br(6, 6, 6, 0), []int64{in(isa.Ret, 0, 0)} }, []int64{in(isa.Call, 1, 0)}, api.ErrGate},
		{"nowhere to return", same, []int64{in(isa.Ret, 0, 0)}, api.ErrStack},
		{"too many calls", same, []int64{in(isa.Call, 0, 0)}, api.ErrStack},
	} {
		l := changed(with(x.program...), "/d", x.change)
		ends(t, x.what, l, ann(), bare("/p", "/d"), x.want)
	}
	l := with(halt())
	p := made(t, l, ann(), "/p")
	ends(t, "no mode to fetch", changed(l, "/p", func(n *api.Node) { n.Acl = every(3) }), ann(), p, api.ErrExec)
	for _, b := range []api.Rings{br(0, 3, 7, 1), br(5, 6, 7, 1)} {
		ends(t, "no ring to fetch", changed(l, "/p", func(n *api.Node) { n.Rings = b }), ann(), p, api.ErrExec)
	}
}

// Drawn trees, subjects, programs.

// dice makes them; the same in each run.
type dice struct{ *rand.Rand }

func oneOf[T any](d dice, l ...T) T { return l[d.IntN(len(l))] }

func (d dice) label() api.Label {
	return oneOf(d, bottom(), bottom(), bottom(), high(), high(), higher(), aside(), top())
}

// list has mostly all modes for some, so that programs go on.
func (d dice) list() []api.Grant {
	var l []api.Grant
	for _, user := range []string{"*", "ann", "bob"} {
		if d.IntN(3) > 0 {
			l = append(l, grant(user, oneOf(d, 7, 7, 7, 1+d.IntN(7))))
		}
	}
	return l
}

func (d dice) rings() api.Rings {
	b := []int{d.IntN(8), d.IntN(8), d.IntN(8)}
	if d.IntN(4) > 0 {
		b = []int{2 + d.IntN(4), 3 + d.IntN(5), 7}
	}
	slices.Sort(b)
	return br(b[0], b[1], b[2], d.IntN(17))
}

// word is mostly an instruction that may go on, or a pointer to somewhere; seldom anything at all.
func (d dice) word() int64 {
	switch k := d.IntN(30); {
	case k == 0:
		return int64(d.Uint64())
	case k < 4:
		return pw(d.IntN(5), d.IntN(6), d.IntN(8))
	case k < 9:
		return in(oneOf(d, isa.Sta, isa.Out, isa.Ldi, isa.Lda, isa.Add), d.IntN(4), d.IntN(5))
	case k < 12:
		return in(oneOf(d, isa.Call, isa.Ret), d.IntN(4), oneOf(d, d.IntN(4), d.IntN(18)))
	}
	return in(d.IntN(23), d.IntN(4), d.IntN(9)-1)
}

// words begin with a write, seldom by chance.
func (d dice) words() []int64 {
	l := []int64{in(isa.Ldi, 0, d.IntN(9)), in(isa.Sta, d.IntN(4), d.IntN(6))}[:2*d.IntN(2)]
	for range 4 + d.IntN(11) {
		l = append(l, d.word())
	}
	return l
}

// node is one that may lie in a directory.
func (d dice) node(up api.Node) api.Node {
	n := seg(path.Join(up.Path, oneOf(d, "a", "b", "a0", "ab", "c")), up.Label, d.list(), d.words()...)
	n.Rings = d.rings()
	if d.IntN(3) == 0 {
		n = dir(n.Path, label.Join(up.Label, d.label()), d.list())
	}
	return n
}

// grow puts nodes where there are none.
func (d dice) grow(l []api.Node, count int) []api.Node {
	for range count {
		up := oneOf(d, l...)
		if !up.Dir {
			continue
		}
		if n := d.node(up); path.Check(n.Path) == api.OK {
			if _, is := find(l, n.Path); !is {
				l = tree.Put(l, n)
			}
		}
	}
	return l
}

func (d dice) tree() []api.Node {
	return d.grow([]api.Node{dir("/", bottom(), every(7))}, 4+d.IntN(30))
}

func (d dice) subject() monitor.Subject {
	return sub(oneOf(d, "ann", "bob", "carl"), d.label())
}

// paths are mostly some that may be bound.
func (d dice) paths(l []api.Node, s monitor.Subject) []string {
	var may []string
	for _, n := range l {
		if _, e := wantMay(l, s, n.Path, 1); e == api.OK && !n.Dir {
			may = append(may, n.Path)
		}
	}
	var paths []string
	for range d.IntN(5) {
		p := oneOf(d, l...).Path
		if len(may) > 0 && d.IntN(8) > 0 {
			p = oneOf(d, may...)
		}
		paths = append(paths, p)
	}
	if d.IntN(40) == 0 {
		paths = append(paths, oneOf(d, "/", "", "/no", "x"), "/")
	}
	return paths
}

// disturb changes something of a tree between two runs: a list, rings, words, a node that comes or goes or is another one.
func (d dice) disturb(l []api.Node) []api.Node {
	n := oneOf(d, l...)
	switch k := d.IntN(6); {
	case k == 0:
		return d.grow(l, 3)
	case n.Path == "/":
		return l
	case k == 1 && len(tree.Under(l, n.Path)) == 0:
		return tree.Drop(l, n.Path)
	case k == 2 && len(tree.Under(l, n.Path)) == 0:
		up, _ := find(l, path.Parent(n.Path))
		x := d.node(up)
		x.Path = n.Path
		return tree.Put(l, x)
	case k == 3 && !n.Dir:
		n.Rings = d.rings()
	case k == 4 && !n.Dir:
		n.Words = d.words()
	default:
		n.Acl = d.list()
	}
	return tree.Put(l, n)
}

func TestManyMakes(t *testing.T) { // P1701, P4, P6
	d := dice{rand.New(rand.NewPCG(17, 1701))}
	seen := map[api.Errno]int{}
	for range 2000 {
		l := d.tree()
		for range 20 {
			s := d.subject()
			paths := d.paths(l, s)
			p, e := proc.Make(l, s, paths...)
			want := proc.Process{}
			if e == api.OK {
				want = bare(paths...)
			}
			if e != wantMake(l, s, paths) || !sameProcess(p, want) {
				t.Fatalf("P1701: Make(%q) by %v in %+v: %+v, %v, not %v", paths, s, l, p, e, wantMake(l, s, paths))
			}
			seen[e]++
		}
	}
	for _, e := range []api.Errno{api.OK, api.ErrArg, api.ErrNone, api.ErrKind, api.ErrLabel, api.ErrAcl} {
		if seen[e] < 50 {
			t.Errorf("the test is weak: Make told %v only %d times", e, seen[e])
		}
	}
}

// tally is what many runs have come by, so that a test that has looked at nothing is seen.
type tally struct {
	ends                     map[api.Errno]int
	halts, goes, told, wrote int
}

func (c *tally) count(was []api.Node, o outcome) {
	c.ends[o.e]++
	switch {
	case o.p.State.Halted:
		c.halts++
	case !o.over:
		c.goes++
	}
	if len(o.told) > 0 {
		c.told++
	}
	if !sameNodes(was, o.nodes) {
		c.wrote++
	}
}

// changesWordsAlone holds what is behind a run to P1703.
func changesWordsAlone(t *testing.T, l []api.Node, s monitor.Subject, p proc.Process, o outcome) {
	t.Helper()
	if e := tree.Check(o.nodes); e != api.OK || len(o.nodes) != len(l) {
		t.Fatalf("P1703: it is no such tree any more: %v: %+v", e, o.nodes)
	}
	for i, n := range o.nodes {
		was := l[i]
		if node.Same(n, was) {
			continue
		}
		if n.Dir || n.Label != s.Label || len(n.Words) != len(was.Words) || !slices.Contains(p.Binds, n.Path) || modesOf(was.Acl, s.User)&2 == 0 {
			t.Fatalf("P1703: %v changed %+v: %+v", s, was, n)
		}
		was.Words = n.Words
		if !node.Same(n, was) {
			t.Fatalf("P1703: %v changed more than words of %+v: %+v", s, was, n)
		}
	}
	if !slices.Equal(o.p.Binds, p.Binds) {
		t.Fatalf("P1702: Binds %v, then %v", p.Binds, o.p.Binds)
	}
}

// inParts holds a steps, and then the rest of n, to what n at once have made.
func inParts(t *testing.T, l []api.Node, s monitor.Subject, p proc.Process, a, n int, whole outcome) {
	t.Helper()
	first := run(t, l, s, p, a)
	if first.over {
		return
	}
	second := run(t, first.nodes, s, first.p, n-a)
	second.told = append(first.told, second.told...)
	if !second.same(whole) {
		t.Fatalf("P1702: %d steps, and then up to %d: %+v, not %+v", a, n, second, whole)
	}
}

func TestManyRuns(t *testing.T) { // P1702, P1703, T2, T4
	d := dice{rand.New(rand.NewPCG(17, 1702))}
	c := tally{ends: map[api.Errno]int{}}
	for range 20000 {
		l := d.tree()
		s := sub(oneOf(d, "ann", "bob", "carl"), oneOf(d, l...).Label)
		paths := d.paths(l, s)
		p, e := proc.Make(l, s, paths...)
		if e != api.OK {
			continue
		}
		for range 6 {
			n := oneOf(d, 0, 1, 2, 5, 20, 99, 100, d.IntN(101))
			o := holds(t, "drawn", l, s, p, n)
			changesWordsAlone(t, l, s, p, o)
			inParts(t, l, s, p, d.IntN(n+1), n, o)
			c.count(l, o)
			if o.over {
				break
			}
			l, p = o.nodes, o.p
			if d.IntN(2) == 0 {
				l = d.disturb(l)
			}
			if e := tree.Check(l); e != api.OK {
				t.Fatalf("the test is wrong: %v: %+v", e, l)
			}
		}
	}
	for _, e := range []api.Errno{api.OK, api.ErrRead, api.ErrWrite, api.ErrExec, api.ErrGate, api.ErrBound, api.ErrOp, api.ErrStack} {
		if c.ends[e] < 30 {
			t.Errorf("the test is weak: Run told %v only %d times", e, c.ends[e])
		}
	}
	if c.halts < 300 || c.goes < 300 || c.told < 300 || c.wrote < 300 {
		t.Errorf("the test is weak: %+v", c)
	}
}

func TestSameAgain(t *testing.T) { // P3, P7: nothing is kept from run to run
	d := dice{rand.New(rand.NewPCG(17, 3))}
	for range 1500 {
		l, other := d.tree(), d.tree()
		s, n := sub("ann", oneOf(d, l...).Label), d.IntN(101)
		p := bare(d.paths(l, s)...)
		first := run(t, l, s, p, n)
		run(t, other, d.subject(), bare(d.paths(other, s)...), d.IntN(101))
		proc.Make(other, s, d.paths(other, s)...)
		if again := run(t, l, s, p, n); !again.same(first) {
			t.Fatalf("P3: of %+v: %+v, then %+v", p, first, again)
		}
	}
}

func TestNoListIsAnEmptyOne(t *testing.T) { // P2
	l := with(ahead(4, halt())...)
	p := made(t, l, ann(), "/p")
	p.State.Stack = nil
	q := deepProcess(p)
	q.State.Stack = []cpu.Frame{}
	if a, b := run(t, l, ann(), p, 100), run(t, l, ann(), q, 100); !a.same(b) {
		t.Errorf("P2: %+v, not %+v", a, b)
	}
	for _, none := range [][]api.Node{nil, {}, l[:0]} {
		if o := run(t, none, ann(), p, 1); !o.same(outcome{p: p, over: true, e: api.ErrBound}) {
			t.Errorf("P1702: Run in no nodes: %+v", o)
		}
		if _, e := proc.Make(none, ann(), "/p"); e != api.ErrNone {
			t.Errorf("P1701: Make in no nodes: %v", e)
		}
	}
}

func TestWhatMayNotBe(t *testing.T) { // P1, P2, P8: no panic, an end, and nothing changed that was handed in
	d := dice{rand.New(rand.NewPCG(17, 8))}
	texts := []string{"", "/", "//", "/a", "/a/b", "/a/b/c", "/b", "a", "/A", "/\xff", strings.Repeat("/a", 7), strings.Repeat("/", 100)}
	far := []int{0, 1, 3, 7, 8, -1, 1 << 31, math.MaxInt64, math.MinInt64}
	odd := func() api.Label {
		return oneOf(d, bottom(), bottom(), top(), lab(4, 0, 0, 0), lab(math.MaxInt, math.MinInt, math.MaxInt, math.MinInt))
	}
	state := func() cpu.State {
		s := cpu.State{Seg: oneOf(d, far...), Off: oneOf(d, far...), Ring: oneOf(d, far...), A: int64(d.Uint64()), Halted: d.IntN(4) == 0}
		for k := range s.P {
			s.P[k] = ptr(oneOf(d, far...), oneOf(d, far...), oneOf(d, far...))
		}
		for range d.IntN(12) {
			s.Stack = append(s.Stack, cpu.Frame{Seg: oneOf(d, far...), Off: oneOf(d, far...), Ring: oneOf(d, far...)})
		}
		return s
	}
	for range 20000 {
		var l []api.Node // in no order, and paths twice
		for range d.IntN(8) {
			n := seg(oneOf(d, texts...), odd(), every(oneOf(d, far...)), slices.Repeat([]int64{d.word()}, d.IntN(30))...)
			n.Dir, n.Rings = d.IntN(3) == 0, oneOf(d, open(), br(7, 7, 7, 99), br(5, 1, -3, oneOf(d, far...)))
			l = append(l, n)
		}
		if d.IntN(2) == 0 {
			l = append([]api.Node{dir("/", bottom(), every(7))}, l...)
		}
		var binds []string
		for range d.IntN(9) {
			binds = append(binds, oneOf(d, texts...))
		}
		s := sub(oneOf(d, texts...), odd())
		p := proc.Process{Binds: binds, State: oneOf(d, state(), cpu.New())}
		run(t, l, s, p, oneOf(d, 0, 1, 100, d.IntN(101)))
		run(t, l, s, p, oneOf(d, far...))
		proc.Make(l, s, binds...)
	}
	huge := strings.Repeat("/abc", 1<<18)
	proc.Make(with(), ann(), huge, huge)
	run(t, with(), ann(), bare(slices.Repeat([]string{huge, "/p", "/"}, 1<<10)...), 100)
	run(t, make([]api.Node, 1<<10), ann(), bare("/", "/p"), 100)
}
