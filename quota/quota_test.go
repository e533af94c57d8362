package quota_test

import (
	"math"
	"math/rand/v2"
	"reflect"
	"slices"
	"testing"

	"donjon/api"
	"donjon/label"
	"donjon/quota"
)

func lab(sec, secCats, integ, intCats int) api.Label {
	return api.Label{Sec: sec, SecCats: secCats, Int: integ, IntCats: intCats}
}

func bottom() api.Label { return lab(0, 0, 3, 255) }

func high() api.Label { return lab(1, 2, 2, 8) }

// beside are labels that differ from high in one number alone, by one, each way; some are over it, some are under it.
func beside() []api.Label {
	return []api.Label{lab(0, 2, 2, 8), lab(2, 2, 2, 8), lab(1, 1, 2, 8), lab(1, 3, 2, 8), lab(1, 2, 1, 8), lab(1, 2, 3, 8), lab(1, 2, 2, 7), lab(1, 2, 2, 9)}
}

// others are those, the ends of what may be, and high with its numbers in other places.
func others() []api.Label {
	return append(beside(), lab(0, 0, 0, 0), bottom(), lab(3, 255, 0, 0), lab(3, 255, 3, 255), lab(2, 1, 2, 8), lab(2, 8, 1, 2), lab(1, 8, 2, 2))
}

// mayNotBe are labels that label.Check refuses.
func mayNotBe() []api.Label {
	return []api.Label{lab(4, 0, 0, 0), lab(-1, 0, 0, 0), lab(0, 256, 0, 0), lab(0, 0, 4, 0), lab(0, 0, 0, -1), lab(257, 258, 258, 264), lab(math.MaxInt, math.MinInt, math.MaxInt, math.MinInt), lab(1+1<<32, 2, 2, 8)}
}

// nodes are so many whose share is by's, and that lie at another label.
func nodes(n int, by, at api.Label) []api.Node {
	return slices.Repeat([]api.Node{{Path: "/a", Label: at, By: by}}, n)
}

// shuffled is a list's elements in another order, the same one in each run.
func shuffled[T any](r *rand.Rand, l []T) []T {
	out := slices.Clone(l)
	r.Shuffle(len(out), func(i, j int) { out[i], out[j] = out[j], out[i] })
	return out
}

// compare says label.Less's order once more, number by number.
func compare(a, b api.Label) int {
	return slices.Compare([]int{a.Sec, a.SecCats, a.Int, a.IntCats}, []int{b.Sec, b.SecCats, b.Int, b.IntCats})
}

func TestNodesOfNone(t *testing.T) { // P1201, P2
	for _, l := range [][]api.Node{nil, {}, make([]api.Node, 0, 40), make([]api.Node, 40)[:0]} {
		for _, by := range append(others(), high(), api.Label{}) {
			if n, e := quota.Nodes(l, by), quota.May(l, by); n != 0 || e != api.OK {
				t.Errorf("P1201: of no nodes, by %v: %d, %v", by, n, e)
			}
		}
	}
}

func TestNodesGoesByBy(t *testing.T) { // P1201
	for _, other := range others() {
		l := append(nodes(3, high(), other), nodes(25, other, high())...)
		if n := quota.Nodes(l, high()); n != 3 {
			t.Errorf("P1201: Nodes by %v, beside %v: %d", high(), other, n)
		}
		if n := quota.Nodes(l, other); n != 25 {
			t.Errorf("P1201: Nodes by %v, beside %v: %d", other, high(), n)
		}
		if e := quota.May(l, high()); e != api.OK {
			t.Errorf("P1201: May by %v, which many nodes lie at: %v", high(), e)
		}
		if n, e := quota.Nodes(l, lab(2, 77, 1, 1)), quota.May(l, lab(2, 77, 1, 1)); n != 0 || e != api.OK {
			t.Errorf("P1201: by a label that no node has: %d, %v", n, e)
		}
	}
}

func TestNodesOfAllKinds(t *testing.T) { // P1201: whatever else a node is, it counts once
	l := []api.Node{
		{Path: "/", Dir: true, Label: bottom(), By: high()},
		{Path: "/a", Dir: true, Label: high(), By: high(), Acl: []api.Grant{{User: "*", Modes: 7}}},
		{Path: "/a/b", Label: high(), By: bottom()},
		{Path: "/a/c", Label: high(), By: high(), Rings: api.Rings{R1: 4, R2: 4, R3: 4}, Words: []int64{1, 2, 3}},
		{Path: "/a/d", Label: bottom(), By: lab(1, 2, 2, 9)},
		{Path: "/e", Label: bottom(), By: high()},
	}
	for i, want := range []int{0, 1, 2, 2, 3, 3, 4} {
		if n := quota.Nodes(l[:i], high()); n != want {
			t.Errorf("P1201: Nodes of the first %d: %d, not %d", i, n, want)
		}
	}
	if n := quota.Nodes(append(slices.Clone(l), l...), high()); n != 8 {
		t.Errorf("P1201: Nodes of the same ones twice: %d", n)
	}
}

func TestMayAtShare(t *testing.T) { // P1201, W6
	r := rand.New(rand.NewPCG(12, 1201))
	for n := range 3 * 20 {
		var l []api.Node
		for _, other := range others() {
			l = append(l, nodes(r.IntN(30), other, high())...)
		}
		l = shuffled(r, append(l, nodes(n, high(), bottom())...))
		want := api.OK
		if n >= 20 {
			want = api.ErrQuota
		}
		if got, e := quota.Nodes(l, high()), quota.May(l, high()); got != n || e != want {
			t.Errorf("P1201: with %d nodes among %d: %d, %v, not %v", n, len(l), got, e, want)
		}
		if e := quota.May(nodes(n, high(), high()), high()); e != want {
			t.Errorf("P1201: May with %d nodes alone: %v, not %v", n, e, want)
		}
	}
	if api.Share != 20 {
		t.Errorf("Share: %d", api.Share)
	}
	if n, e := quota.Nodes(nodes(100000, high(), bottom()), high()), quota.May(nodes(100000, high(), bottom()), high()); n != 100000 || e != api.ErrQuota {
		t.Errorf("P1201: of 100000 nodes: %d, %v", n, e)
	}
}

func TestMayOfOneTakesNothingFromOthers(t *testing.T) { // P1202, W6
	for _, full := range append(others(), high()) {
		for _, other := range append(others(), high()) {
			if other == full {
				continue
			}
			l := append(nodes(19, other, full), nodes(60, full, other)...)
			if e := quota.May(l, other); e != api.OK {
				t.Errorf("P1202: with 19 nodes of %v and many of %v: %v", other, full, e)
			}
			if e := quota.May(append(l, nodes(1, other, full)...), other); e != api.ErrQuota {
				t.Errorf("P1201: with 20 nodes of %v and many of %v: %v", other, full, e)
			}
		}
	}
}

func TestExample(t *testing.T) { // the chapter's example 1
	c := quota.New()
	if n := c.Add(high()); n != 1 {
		t.Errorf("P1201: the first Add: %d", n)
	}
	if n := c.Add(high()); n != 2 {
		t.Errorf("P1201: the second Add: %d", n)
	}
}

func TestCountsOfNone(t *testing.T) { // P1201, P2
	c := quota.New()
	for range 2 {
		for _, l := range append(others(), high(), api.Label{}) {
			if n := c.Of(l); n != 0 {
				t.Errorf("P1201: Of of %v, which was never added: %d", l, n)
			}
		}
		if all := c.All(); len(all) != 0 { // having been asked for gives a label no place
			t.Errorf("P1201: All of none: %v", all)
		}
	}
	var unmade quota.Counts
	if n, all := unmade.Of(high()), unmade.All(); n != 0 || len(all) != 0 || unmade.Add(high()) != 1 || unmade.Of(high()) != 1 {
		t.Errorf("P1: of Counts that New has not made: %d, %v", n, all)
	}
}

func TestCountsOfOneLabel(t *testing.T) { // P1201
	for _, l := range append(others(), high(), api.Label{}) {
		c := quota.New()
		for i := range 50 {
			if n := c.Of(l); n != i {
				t.Errorf("P1201: Of of %v behind %d Adds: %d", l, i, n)
			}
			if n := c.Add(l); n != i+1 {
				t.Errorf("P1201: Add %d of %v: %d", i+1, l, n)
			}
			if all := c.All(); !slices.Equal(all, slices.Repeat([]api.Label{l}, i+1)) {
				t.Errorf("P1201: All behind %d Adds of %v: %v", i+1, l, all)
			}
		}
	}
}

func TestCountsHaveNoShare(t *testing.T) { // P1201, P9: a count goes on past every share
	c := quota.New()
	for i := range 70000 {
		if n := c.Add(high()); n != i+1 {
			t.Fatalf("P1201: Add %d: %d", i+1, n)
		}
	}
	if n, all := c.Of(high()), c.All(); n != 70000 || !slices.Equal(all, slices.Repeat([]api.Label{high()}, 70000)) {
		t.Errorf("P1201: %d, %d", n, len(all))
	}
}

func TestAllByLess(t *testing.T) { // P1201
	rising := []api.Label{
		lab(0, 0, 0, 0), lab(0, 0, 0, 255), lab(0, 0, 3, 0), lab(0, 0, 3, 255), lab(0, 9, 0, 0), lab(0, 10, 0, 0), lab(0, 255, 3, 255),
		lab(1, 0, 0, 0), lab(1, 2, 1, 8), lab(1, 2, 2, 7), lab(1, 2, 2, 8), lab(1, 2, 2, 10), lab(1, 2, 2, 100), lab(1, 2, 3, 0), lab(1, 10, 0, 0), lab(1, 100, 0, 0),
		lab(2, 0, 0, 0), lab(3, 0, 0, 0), lab(3, 255, 3, 255),
	}
	falling := slices.Clone(rising)
	slices.Reverse(falling)
	r := rand.New(rand.NewPCG(12, 402))
	for _, l := range [][]api.Label{rising, falling, shuffled(r, rising), shuffled(r, rising), shuffled(r, rising)} {
		c := quota.New()
		for i, x := range l {
			if n := c.Add(x); n != 1 || c.Of(x) != 1 {
				t.Errorf("P1201: the first Add of %v: %d", x, n)
			}
			want := slices.Clone(l[:i+1])
			slices.SortFunc(want, func(a, b api.Label) int { return slices.Index(rising, a) - slices.Index(rising, b) })
			if all := c.All(); !slices.Equal(all, want) {
				t.Errorf("P1201: All: %v, not %v", all, want)
			}
		}
		var want []api.Label
		for i, x := range rising {
			for range i % 4 { // each as often as its count, which is another one than that of the next
				c.Add(x)
			}
			want = append(want, slices.Repeat([]api.Label{x}, 1+i%4)...)
		}
		if all := c.All(); !slices.Equal(all, want) {
			t.Errorf("P1201: All: %v, not %v", all, want)
		}
	}
}

func TestCountsManyPlays(t *testing.T) { // P1201, held to the row of what was added
	r := rand.New(rand.NewPCG(12, 1202))
	for range 150 {
		c := quota.New()
		var row []api.Label
		few := append(shuffled(r, others())[:6], lab(r.IntN(4), r.IntN(256), r.IntN(4), r.IntN(256)), high())
		for range 60 {
			x, y := few[r.IntN(len(few))], few[r.IntN(len(few))]
			row = append(row, x)
			count := func(l api.Label) int {
				n := 0
				for _, z := range row {
					if z == l {
						n++
					}
				}
				return n
			}
			if n := c.Add(x); n != count(x) {
				t.Fatalf("P1201: Add of %v: %d, not %d", x, n, count(x))
			}
			if n := c.Of(y); n != count(y) {
				t.Fatalf("P1201: Of of %v: %d, not %d", y, n, count(y))
			}
		}
		all := c.All()
		for i := 1; i < len(all); i++ {
			if label.Less(all[i], all[i-1]) {
				t.Fatalf("P1201: All has %v ahead of %v", all[i-1], all[i])
			}
		}
		slices.SortFunc(row, compare)
		if !slices.Equal(all, row) {
			t.Fatalf("P1201: All: %v, not %v", all, row)
		}
	}
}

func TestCountsOfOneChangeNoOthers(t *testing.T) { // P1202, W6
	for _, one := range append(others(), high()) {
		c := quota.New()
		var rest []api.Label
		for i, l := range append(others(), high()) {
			if l == one {
				continue
			}
			for range i % 3 { // some have no count yet
				c.Add(l)
				rest = append(rest, l)
			}
		}
		for i := range 100 {
			if n := c.Add(one); n != i+1 {
				t.Errorf("P1202: Add %d of %v beside others: %d", i+1, one, n)
			}
		}
		for i, l := range append(others(), high()) {
			if n := c.Of(l); l != one && n != i%3 {
				t.Errorf("P1202: by Adds of %v the count of %v is %d, not %d", one, l, n, i%3)
			}
		}
		left := slices.DeleteFunc(c.All(), func(l api.Label) bool { return l == one })
		slices.SortFunc(rest, compare)
		if !slices.Equal(left, rest) {
			t.Errorf("P1202: by Adds of %v All tells of the others %v, not %v", one, left, rest)
		}
	}
}

func TestTwoCounts(t *testing.T) { // P7
	a, b := quota.New(), quota.New()
	for i := range 30 {
		if n := a.Add(high()); n != i+1 {
			t.Errorf("P7: Add %d to the one: %d", i+1, n)
		}
		if n := b.Of(high()); n != i/3 {
			t.Errorf("P7: Of of the other one: %d, not %d", n, i/3)
		}
		if i%3 == 2 {
			b.Add(high())
		}
	}
	b.Add(bottom())
	if n := a.Of(bottom()); n != 0 {
		t.Errorf("P7: what the other one counts: %d", n)
	}
	if all := a.All(); !slices.Equal(all, slices.Repeat([]api.Label{high()}, 30)) {
		t.Errorf("P7: All of the one: %v", all)
	}
	if all, want := b.All(), append([]api.Label{bottom()}, slices.Repeat([]api.Label{high()}, 10)...); !slices.Equal(all, want) {
		t.Errorf("P7: All of the other one: %v", all)
	}
	if c := quota.New(); c.Of(high()) != 0 || len(c.All()) != 0 || c.Add(high()) != 1 {
		t.Error("P7: new Counts are not empty")
	}
}

func TestNodesLeavesWhatIsHandedIn(t *testing.T) { // P2, P3
	mine := func() []api.Node { // with spare room behind it, and behind its lists
		l := append(nodes(25, high(), bottom()), nodes(25, bottom(), high())...)
		for i := range l {
			l[i].Acl = []api.Grant{{User: "*", Modes: 7}, {User: "spare", Modes: 1}}[:1]
			l[i].Words = []int64{int64(i), 77}[:1]
		}
		return l
	}
	whole := func(l []api.Node) []api.Node {
		out := slices.Clone(l[:cap(l)])
		for i := range out {
			out[i].Acl, out[i].Words = out[i].Acl[:cap(out[i].Acl)], out[i].Words[:cap(out[i].Words)]
		}
		return out
	}
	l, want := mine()[:40], mine()[:40]
	for range 3 {
		for _, x := range []struct {
			by    api.Label
			count int
			e     api.Errno
		}{{high(), 25, api.ErrQuota}, {bottom(), 15, api.OK}, {api.Label{}, 0, api.OK}} {
			if n, e := quota.Nodes(l, x.by), quota.May(l, x.by); n != x.count || e != x.e { // spare room does not count
				t.Errorf("P3: by %v: %d, %v", x.by, n, e)
			}
		}
		if !reflect.DeepEqual(whole(l), whole(want)) {
			t.Fatal("P2: what was handed in is changed")
		}
	}
}

func TestAllIsNewMemory(t *testing.T) { // P2, P3
	c := quota.New()
	row := []api.Label{high(), bottom(), lab(3, 255, 0, 0), high(), bottom(), high()}
	for i, x := range row {
		c.Add(x)
		want := slices.Clone(row[:i+1])
		slices.SortFunc(want, compare)
		first, second := c.All(), c.All()
		if !slices.Equal(first, want) || !slices.Equal(second, want) {
			t.Fatalf("P3: All, and All: %v, %v", first, second)
		}
		first = first[:cap(first)]
		for k := range first {
			first[k] = lab(2, 2, 2, 2)
		}
		if !slices.Equal(second, want) {
			t.Errorf("P2: one answer is changed by a change of another one: %v", second)
		}
		if third := c.All(); !slices.Equal(third, want) || c.Of(lab(2, 2, 2, 2)) != 0 {
			t.Errorf("P2: by a change of an answer All tells %v", third)
		}
		second = append(second, lab(2, 2, 2, 2))
		c.Of(x)
		if third := c.All(); !slices.Equal(third, want) || second[i+1] != lab(2, 2, 2, 2) {
			t.Errorf("P2: what stands behind an answer: %v, %v", second, third)
		}
	}
}

func TestAnswerStaysAsItWas(t *testing.T) { // P2: what All has told is not changed by what is added later
	c := quota.New()
	var told, was [][]api.Label
	for i := range 40 {
		c.Add(others()[i%len(others())])
		all := c.All()
		told, was = append(told, all), append(was, slices.Clone(all))
	}
	for i := range told {
		if !slices.Equal(told[i], was[i]) {
			t.Errorf("P2: answer %d is %v, and was %v", i, told[i], was[i])
		}
	}
}

func TestSameCallsSameAnswers(t *testing.T) { // P3: whatever order a map is gone through in
	var first []api.Label
	for i := range 30 {
		c := quota.New()
		r := rand.New(rand.NewPCG(12, 3))
		for range 300 {
			c.Add(lab(r.IntN(4), r.IntN(256), r.IntN(4), r.IntN(256)))
		}
		all := c.All()
		if i == 0 {
			first = all
		}
		if len(all) != 300 || !slices.Equal(all, first) {
			t.Fatal("P3: the same calls answer otherwise")
		}
	}
}

func TestLabelsThatMayNotBe(t *testing.T) { // P1, P2, P8: no panic, an end, and nothing changed
	for _, l := range mayNotBe() {
		if label.Check(l) == api.OK {
			t.Fatalf("the test's label %v may be", l)
		}
		handed := append(nodes(3, l, high()), nodes(3, high(), l)...)
		quota.Nodes(handed, l)
		quota.May(handed, l)
		if !slices.EqualFunc(handed, append(nodes(3, l, high()), nodes(3, high(), l)...), func(a, b api.Node) bool { return a.Label == b.Label && a.By == b.By }) {
			t.Errorf("P2: by %v what was handed in is changed", l)
		}
		if n := quota.Nodes(handed, high()); n != 3 {
			t.Errorf("P1201: beside %v: %d", l, n)
		}
	}
	c := quota.New()
	c.Add(high())
	for range 2 {
		for _, l := range mayNotBe() {
			c.Of(l)
			c.Add(l)
			c.All()
		}
	}
	if n := c.Of(high()); n != 1 {
		t.Errorf("P1202: beside labels that may not be: %d", n)
	}
}
