package audit_test

import (
	"fmt"
	"math"
	"math/rand/v2"
	"slices"
	"strings"
	"testing"

	"donjon/api"
	"donjon/audit"
	"donjon/node"
)

func lab(sec, secCats, integ, intCats int) api.Label {
	return api.Label{Sec: sec, SecCats: secCats, Int: integ, IntCats: intCats}
}

func bottom() api.Label { return lab(0, 0, 3, 255) }

func high() api.Label { return lab(1, 2, 2, 8) }

func top() api.Label { return lab(3, 255, 0, 0) }

// others are labels beside high: those that differ from it in one number alone, by one, each way; the ends of what may be; high with its numbers in other places.
func others() []api.Label {
	return []api.Label{
		lab(0, 2, 2, 8), lab(2, 2, 2, 8), lab(1, 1, 2, 8), lab(1, 3, 2, 8), lab(1, 2, 1, 8), lab(1, 2, 3, 8), lab(1, 2, 2, 7), lab(1, 2, 2, 9),
		lab(0, 0, 0, 0), bottom(), top(), lab(3, 255, 3, 255), lab(2, 1, 2, 8), lab(2, 8, 1, 2), lab(1, 8, 2, 2),
	}
}

// mayNotBe are labels that label.Check refuses.
func mayNotBe() []api.Label {
	return []api.Label{
		lab(4, 0, 0, 0), lab(-1, 0, 0, 0), lab(0, 256, 0, 0), lab(0, -1, 0, 0), lab(0, 0, 4, 0), lab(0, 0, -1, 0), lab(0, 0, 0, 256), lab(0, 0, 0, -1),
		lab(257, 258, 258, 264), lab(1+1<<32, 2, 2, 8), lab(math.MaxInt, math.MinInt, math.MaxInt, math.MinInt),
	}
}

// entry is one that may be; what stands in it tells it from others.
func entry(at api.Label, n int) api.Entry {
	return api.Entry{Seq: 1000 - n, Label: at, User: "u" + fmt.Sprint(n), Verb: 1 + n%14, Object: "/o" + fmt.Sprint(n), Verdict: api.Errno(n % 256)}
}

// logged is a row of Adds that are all taken.
func logged(t *testing.T, row ...api.Entry) *audit.Log {
	t.Helper()
	l := audit.New()
	for i, e := range row {
		if got := l.Add(e); got != api.OK {
			t.Fatalf("P1401: Add %d, of %+v: %v", i, e, got)
		}
	}
	return l
}

// filled is so many entries of a label.
func filled(at api.Label, n int) []api.Entry {
	var row []api.Entry
	for i := range n {
		row = append(row, entry(at, i))
	}
	return row
}

// wantAll says All once more, of the row of all that was added.
func wantAll(row []api.Entry, at api.Label) []api.Entry {
	var out []api.Entry
	for _, e := range row {
		if e.Label == at {
			e.Seq = len(out) + 1
			out = append(out, e)
		}
	}
	return out
}

// over says label.Over's order once more, bit by bit.
func over(a, b api.Label) bool {
	for bit := 1; bit < 256; bit *= 2 {
		if b.SecCats&bit > a.SecCats&bit || a.IntCats&bit > b.IntCats&bit {
			return false
		}
	}
	return a.Sec >= b.Sec && a.Int <= b.Int
}

// compare says label.Less's order once more, number by number.
func compare(a, b api.Label) int {
	return slices.Compare([]int{a.Sec, a.SecCats, a.Int, a.IntCats}, []int{b.Sec, b.SecCats, b.Int, b.IntCats})
}

// wantSeen says Seen once more: a row's entries of the labels below, those of one label left in their order.
func wantSeen(row []api.Entry, by api.Label) []api.Entry {
	var out []api.Entry
	count := map[api.Label]int{}
	for _, e := range row {
		count[e.Label]++
		e.Seq = count[e.Label]
		if over(by, e.Label) {
			out = append(out, e)
		}
	}
	slices.SortStableFunc(out, func(a, b api.Entry) int { return compare(a.Label, b.Label) })
	return out
}

// wantChain says Chain once more, number by number.
func wantChain(row []api.Entry, at api.Label) uint64 {
	h := uint64(14695981039346656037)
	turn := func(b ...byte) {
		for _, c := range b {
			h ^= uint64(c)
			h *= 1099511628211
		}
	}
	turn(make([]byte, 8)...)
	for _, e := range wantAll(row, at) {
		turn(0, 0, 0, 0, 0, 0, 0, byte(e.Seq), byte(at.Sec), byte(at.SecCats), byte(at.Int), byte(at.IntCats), byte(len(e.User)))
		turn([]byte(e.User)...)
		turn(byte(e.Verb), byte(len(e.Object)))
		turn([]byte(e.Object)...)
		turn(byte(e.Verdict))
	}
	return h
}

// hold holds all that a log answers to the row of what it took.
func hold(t *testing.T, why string, l *audit.Log, row []api.Entry, labels ...api.Label) {
	t.Helper()
	for _, at := range labels {
		want := wantAll(row, at)
		if got := l.All(at); !slices.Equal(got, want) {
			t.Fatalf("%s: All of %v: %+v, not %+v", why, at, got, want)
		}
		if got := l.Full(at); got != (len(want) == 40) {
			t.Fatalf("%s: Full of %v with %d entries: %v", why, at, len(want), got)
		}
		if got, want := l.Seen(at), wantSeen(row, at); !slices.Equal(got, want) {
			t.Fatalf("%s: Seen from %v: %+v, not %+v", why, at, got, want)
		}
		if got, want := l.Chain(at), wantChain(row, at); got != want {
			t.Fatalf("%s: Chain of %v: %x, not %x", why, at, got, want)
		}
	}
}

func TestNewLog(t *testing.T) { // P1401, P1402, P2
	l := audit.New()
	for range 2 { // having been asked for changes nothing
		for _, at := range append(others(), high(), api.Label{}) {
			if l.Full(at) || len(l.All(at)) != 0 || len(l.Seen(at)) != 0 {
				t.Errorf("P1401: of a new log, at %v: %v, %v, %v", at, l.Full(at), l.All(at), l.Seen(at))
			}
			if h := l.Chain(at); h != 0xa8c7f832281a39c5 {
				t.Errorf("P1402: Chain of no entry: %x", h)
			}
		}
	}
	var unmade audit.Log
	hold(t, "P1", &unmade, nil, high(), bottom())
	if e := unmade.Add(entry(high(), 0)); e != api.OK {
		t.Errorf("P1: Add to a log that New has not made: %v", e)
	}
	hold(t, "P1", &unmade, []api.Entry{entry(high(), 0)}, high(), bottom())
}

func TestAddGivesSeq(t *testing.T) { // P1401: an entry's own Seq is not asked; all else is kept
	for _, at := range append(others(), high()) {
		l := audit.New()
		for i, seq := range []int{0, 1, 1, 2, 99, -5, math.MaxInt, math.MinInt, 41, 3} {
			e := api.Entry{Seq: seq, Label: at, User: "ann", Verb: api.VDel, Object: "/x", Verdict: api.ErrAcl}
			if got := l.Add(e); got != api.OK {
				t.Errorf("P1401: Add with Seq %d: %v", seq, got)
			}
			all := l.All(at)
			if len(all) != i+1 {
				t.Fatalf("P1401: All behind %d Adds: %v", i+1, all)
			}
			for k, got := range all {
				if want := (api.Entry{Seq: k + 1, Label: at, User: "ann", Verb: 4, Object: "/x", Verdict: 16}); got != want {
					t.Errorf("P1401: entry %d: %+v, not %+v", k, got, want)
				}
			}
		}
	}
}

// edges are entries at their edges, by what changes one that may be, and whether it may be then.
func edges() []struct {
	name   string
	change func(*api.Entry)
	want   api.Errno
} {
	type row = struct {
		name   string
		change func(*api.Entry)
		want   api.Errno
	}
	var out []row
	for _, at := range mayNotBe() {
		out = append(out, row{fmt.Sprint("label ", at), func(e *api.Entry) { e.Label = at }, api.ErrArg})
	}
	for _, at := range others() {
		out = append(out, row{fmt.Sprint("label ", at), func(e *api.Entry) { e.Label = at }, api.OK})
	}
	for n := -20; n < 300; n++ {
		verb, verdict := api.ErrArg, api.ErrArg
		if n >= 1 && n <= 14 {
			verb = api.OK
		}
		if n >= 0 && n <= 255 {
			verdict = api.OK
		}
		out = append(out, row{fmt.Sprint("verb ", n), func(e *api.Entry) { e.Verb = n }, verb}, row{fmt.Sprint("verdict ", n), func(e *api.Entry) { e.Verdict = api.Errno(n) }, verdict})
	}
	for _, n := range []int{257, 65536 + 1, 1<<32 + 1, -255, -1 << 32, math.MaxInt, math.MinInt} {
		out = append(out, row{fmt.Sprint("verb ", n), func(e *api.Entry) { e.Verb = n }, api.ErrArg}, row{fmt.Sprint("verdict ", n), func(e *api.Entry) { e.Verdict = api.Errno(n) }, api.ErrArg})
	}
	for n := range 600 {
		want := api.OK
		if n > 78 {
			want = api.ErrArg
		}
		text := strings.Repeat("x", n)
		out = append(out, row{fmt.Sprint("user of ", n), func(e *api.Entry) { e.User = text }, want}, row{fmt.Sprint("object of ", n), func(e *api.Entry) { e.Object = text }, want})
	}
	for text, want := range map[string]api.Errno{ // bytes count, whatever they say; and no text is a wrong one
		strings.Repeat("é", 39): api.OK, strings.Repeat("é", 39) + "x": api.ErrArg, strings.Repeat("é", 40): api.ErrArg,
		"a b": api.OK, "\x00\xff\n": api.OK, "-": api.OK, "//": api.OK, strings.Repeat("\xff", 78): api.OK, strings.Repeat("\x00", 79): api.ErrArg,
	} {
		out = append(out, row{fmt.Sprintf("user %q", text), func(e *api.Entry) { e.User = text }, want}, row{fmt.Sprintf("object %q", text), func(e *api.Entry) { e.Object = text }, want})
	}
	return out
}

func TestAddAtEdges(t *testing.T) { // P1401, P5, P9
	for _, x := range edges() {
		row := []api.Entry{entry(high(), 1), entry(bottom(), 2), entry(high(), 3)}
		l := logged(t, row...)
		e := entry(high(), 4)
		x.change(&e)
		if got := l.Add(e); got != x.want {
			t.Errorf("P1401: Add with %s: %v, not %v", x.name, got, x.want)
		}
		asked := []api.Label{high(), bottom(), top()}
		if x.want == api.OK {
			row, asked = append(row, e), append(asked, e.Label)
		}
		hold(t, "with "+x.name, l, row, asked...)
		next := entry(high(), 5) // what was refused has taken no number either
		if got := l.Add(next); got != api.OK {
			t.Errorf("P5: Add behind that with %s: %v", x.name, got)
		}
		hold(t, "behind "+x.name, l, append(row, next), asked...)
	}
}

func TestAddAtEdgesOfAll(t *testing.T) { // P1401: all the greatest, all the least at once
	long := strings.Repeat("z", 78)
	row := []api.Entry{
		{Label: lab(3, 255, 3, 255), User: long, Verb: 14, Object: long, Verdict: 255},
		{Label: lab(0, 0, 0, 0), Verb: 1},
		{Label: lab(3, 255, 3, 255), Verb: 1},
	}
	hold(t, "P1401", logged(t, row...), row, lab(3, 255, 3, 255), lab(0, 0, 0, 0), lab(3, 255, 0, 0), high())
}

func TestErrArgAheadOfErrLog(t *testing.T) { // P1401, P6
	row := filled(high(), 40)
	l := logged(t, row...)
	for _, x := range edges() {
		e := entry(high(), 77)
		x.change(&e)
		if e.Label == high() || x.want != api.OK {
			want := x.want
			if want == api.OK {
				want = api.ErrLog
			}
			if got := l.Add(e); got != want {
				t.Errorf("P6: Add to a full log, with %s: %v, not %v", x.name, got, want)
			}
		}
	}
	hold(t, "P5", l, row, high(), bottom(), top())
}

func TestFortieth(t *testing.T) { // P1401, P5, W6
	if api.MaxLog != 40 {
		t.Errorf("MaxLog: %d", api.MaxLog)
	}
	for _, at := range append(others(), high()) {
		l := audit.New()
		for i := range 40 {
			if l.Full(at) {
				t.Errorf("P1401: %v is full with %d entries", at, i)
			}
			if e := l.Add(entry(at, i)); e != api.OK {
				t.Errorf("P1401: Add %d at %v: %v", i+1, at, e)
			}
		}
		for range 3 {
			if !l.Full(at) {
				t.Errorf("P1401: %v is not full with 40 entries", at)
			}
			if e := l.Add(entry(at, 99)); e != api.ErrLog {
				t.Errorf("P1401: Add 41 at %v: %v", at, e)
			}
		}
		hold(t, "P5", l, filled(at, 40), at)
		for _, other := range append(others(), high()) { // a full one takes nothing from another one
			if other == at {
				continue
			}
			if l.Full(other) {
				t.Errorf("P1403: %v is full with the entries of %v", other, at)
			}
			for i := range 40 {
				if e := l.Add(entry(other, i)); e != api.OK {
					t.Errorf("P1403: beside %v, which is full, Add %d at %v: %v", at, i+1, other, e)
				}
			}
			if e := l.Add(entry(other, 40)); e != api.ErrLog {
				t.Errorf("P1401: beside %v, which is full, Add 41 at %v: %v", at, other, e)
			}
		}
	}
}

func TestSeen(t *testing.T) { // P1401
	one := func(at api.Label, user string) api.Entry {
		return api.Entry{Label: at, User: user, Verb: api.VGet, Object: "/x"}
	}
	l := logged(t,
		one(lab(2, 1, 1, 0), "a"), one(high(), "b"), one(bottom(), "c"), one(lab(1, 10, 2, 8), "d"), one(high(), "e"),
		one(lab(0, 0, 3, 0), "f"), one(bottom(), "g"), one(lab(2, 1, 1, 0), "h"), one(lab(1, 2, 1, 9), "i"), one(high(), "j"))
	for _, x := range []struct {
		why  string
		by   api.Label
		want string
	}{
		{"over all", top(), "f1 c1 g2 i1 b1 e2 j3 d1 a1 h2"},
		{"over all but for categories", lab(3, 0, 0, 0), "f1 c1 g2"},
		{"of a level that is too low", lab(1, 255, 0, 0), "f1 c1 g2 i1 b1 e2 j3 d1"},
		{"over itself and bottom", high(), "c1 g2 b1 e2 j3"},
		{"with one category more", lab(1, 10, 2, 8), "c1 g2 b1 e2 j3 d1"},
		{"with an integrity that is lesser", lab(1, 10, 2, 0), "f1 c1 g2 b1 e2 j3 d1"},
		{"with all lesser integrity", lab(1, 2, 0, 0), "f1 c1 g2 i1 b1 e2 j3"},
		{"with an integrity that is too great", lab(3, 255, 3, 8), "c1 g2"},
		{"with more integrity's categories than some", lab(3, 255, 1, 9), "c1 g2 i1"},
		{"of bottom", bottom(), "c1 g2"},
		{"that has no entry, over bottom alone", lab(0, 255, 3, 128), "c1 g2"},
		{"of nothing but integrity's categories", lab(0, 0, 3, 0), "f1 c1 g2"},
	} {
		var got []string
		for _, e := range l.Seen(x.by) {
			got = append(got, e.User+fmt.Sprint(e.Seq))
		}
		if s := strings.Join(got, " "); s != x.want {
			t.Errorf("P1401: Seen from a label %s: %s, not %s", x.why, s, x.want)
		}
	}
	l = logged(t, one(high(), "a"), one(top(), "b"), one(high(), "c"))
	for _, by := range []api.Label{bottom(), lab(0, 2, 2, 8), lab(1, 0, 2, 8), lab(1, 2, 3, 8), lab(1, 2, 2, 255), lab(3, 255, 3, 255)} {
		if got := l.Seen(by); len(got) != 0 {
			t.Errorf("P1401: Seen from %v, which is over none: %+v", by, got)
		}
	}
}

func TestSeenOfManyLabels(t *testing.T) { // P1401, P3: in order, whatever order a map is gone through in
	r := rand.New(rand.NewPCG(14, 402))
	for range 20 {
		var row []api.Entry
		for i := range 300 {
			at := lab(r.IntN(4), r.IntN(256), r.IntN(4), r.IntN(256))
			row = append(row, entry(at, i), entry(at, i+1))
		}
		r.Shuffle(len(row), func(i, j int) { row[i], row[j] = row[j], row[i] })
		l := logged(t, row...)
		for range 3 {
			hold(t, "P1401", l, row, top(), bottom(), lab(2, 127, 1, 1), row[0].Label)
		}
		if n := len(l.Seen(top())); n != 600 {
			t.Errorf("P1401: Seen from the top: %d of 600", n)
		}
	}
}

func TestManyPlays(t *testing.T) { // P1401, P1402, P1403, held to the row of what was taken
	r := rand.New(rand.NewPCG(14, 1401))
	fulls, wrongs := 0, 0
	for range 40 {
		l := audit.New()
		var row []api.Entry
		few := []api.Label{high(), bottom(), others()[r.IntN(len(others()))], lab(r.IntN(4), r.IntN(256), r.IntN(4), r.IntN(256))}
		for i := range 150 {
			e := entry(few[r.IntN(1+r.IntN(len(few)))], i)
			e.Seq = r.IntN(100) - 50
			wrong := r.IntN(8) == 0
			if wrong {
				switch r.IntN(3) {
				case 0:
					e.Verb = []int{-1, 0, 15, 99}[r.IntN(4)]
				case 1:
					e.Verdict = []api.Errno{-1, 256, 1000}[r.IntN(3)]
				case 2:
					e.User = strings.Repeat("u", 79+r.IntN(300))
				}
			}
			want := api.OK
			switch {
			case wrong:
				want = api.ErrArg
				wrongs++
			case len(wantAll(row, e.Label)) == 40:
				want = api.ErrLog
				fulls++
			default:
				row = append(row, e)
			}
			if got := l.Add(e); got != want {
				t.Fatalf("P1401: Add %d, of %+v: %v, not %v", i, e, got, want)
			}
			hold(t, "P1401", l, row, few[r.IntN(len(few))])
		}
		hold(t, "P1401", l, row, append(few, top())...)
	}
	if fulls < 50 || wrongs < 50 {
		t.Errorf("the test is weak: %d, %d", fulls, wrongs)
	}
}

func TestAddedStays(t *testing.T) { // P1403, T6: whatever comes behind it, at its label or at others
	for _, at := range []api.Label{high(), bottom(), top()} {
		l := audit.New()
		var chains []uint64
		var fronts [][]api.Entry
		for i := range 60 {
			l.Add(entry(at, i))
			for k, other := range others() {
				if other != at {
					l.Add(entry(other, i*k))
				}
			}
			all := l.All(at)
			for k, front := range fronts {
				if !slices.Equal(all[:len(front)], front) {
					t.Fatalf("P1403: behind %d Adds the first %d are %+v, and were %+v", i+1, k+1, all[:len(front)], front)
				}
			}
			fronts, chains = append(fronts, slices.Clone(all)), append(chains, l.Chain(at))
		}
		for i := range 40 {
			if len(fronts[i]) != i+1 || fronts[i][i].Object != "/o"+fmt.Sprint(i) {
				t.Errorf("P1403: behind %d Adds: %+v", i+1, fronts[i])
			}
			if slices.Contains(chains[:i], chains[i]) {
				t.Errorf("P1402: Chain of %d entries is that of fewer", i+1)
			}
		}
		for i := 40; i < 60; i++ {
			if !slices.Equal(fronts[i], fronts[39]) || chains[i] != chains[39] {
				t.Errorf("P1403: a full log changes by Add %d", i+1)
			}
		}
	}
}

func TestOneChangesNoOther(t *testing.T) { // P1403, W6
	for _, one := range append(others(), high()) {
		var row []api.Entry
		for i, at := range append(others(), high()) {
			if at != one {
				row = append(row, filled(at, i%4*13)...) // some have none, some have 39
			}
		}
		l := logged(t, row...)
		type answers struct {
			full  bool
			all   []api.Entry
			chain uint64
			seen  []api.Entry
		}
		ask := func(at api.Label) answers { return answers{l.Full(at), l.All(at), l.Chain(at), l.Seen(at)} }
		was := map[api.Label]answers{}
		for _, at := range append(others(), high()) {
			was[at] = ask(at)
		}
		for i := range 45 {
			l.Add(entry(one, i))
		}
		for _, at := range append(others(), high()) {
			if at == one {
				continue
			}
			is := ask(at)
			if is.full != was[at].full || is.chain != was[at].chain || !slices.Equal(is.all, was[at].all) {
				t.Errorf("P1403: by Adds at %v the log of %v is changed", one, at)
			}
			is.seen = slices.DeleteFunc(is.seen, func(e api.Entry) bool { return e.Label == one })
			if !slices.Equal(is.seen, was[at].seen) {
				t.Errorf("P1403: by Adds at %v what is seen of others from %v is changed", one, at)
			}
			if !over(at, one) && len(l.Seen(at)) != len(was[at].seen) {
				t.Errorf("P1403: Adds at %v are seen from %v", one, at)
			}
		}
	}
}

func TestChain(t *testing.T) { // P1402, by numbers that were worked out elsewhere
	l := audit.New()
	steps := []struct {
		e             api.Entry
		bottom, above uint64
	}{
		{api.Entry{Label: bottom(), User: "a", Verb: api.VSeg, Object: "/x"}, 0x679873c695575013, 0xa8c7f832281a39c5},
		{api.Entry{Seq: 77, Label: high(), User: "ann", Verb: api.VGet, Object: "/l1/plan", Verdict: api.ErrLabel}, 0x679873c695575013, 0x7fd796de56926620},
		{api.Entry{Label: bottom(), Verb: api.VDeny, Verdict: 255}, 0x93a70285c0303688, 0x7fd796de56926620},
	}
	for i, x := range steps {
		if e := l.Add(x.e); e != api.OK {
			t.Fatalf("P1401: Add %d: %v", i, e)
		}
		if a, b := l.Chain(bottom()), l.Chain(high()); a != x.bottom || b != x.above {
			t.Errorf("P1402: Chain behind %d entries: %x, %x, not %x, %x", i+1, a, b, x.bottom, x.above)
		}
	}
}

func TestChainTellsEntriesApart(t *testing.T) { // P1402: by each field, and by their order
	base := entry(high(), 1)
	rows := map[string][]api.Entry{"itself": {base}, "twice": {base, base}, "with another": {base, entry(high(), 2)}, "behind another": {entry(high(), 2), base}}
	for name, change := range map[string]func(*api.Entry){
		"user":           func(e *api.Entry) { e.User = "u3" },
		"object":         func(e *api.Entry) { e.Object = "/o3" },
		"verb":           func(e *api.Entry) { e.Verb++ },
		"verdict":        func(e *api.Entry) { e.Verdict++ },
		"user longer":    func(e *api.Entry) { e.User += "\x02" },
		"texts swapped":  func(e *api.Entry) { e.User, e.Object = e.Object, e.User },
		"empty user":     func(e *api.Entry) { e.User = "" },
		"empty object":   func(e *api.Entry) { e.Object = "" },
		"greatest error": func(e *api.Entry) { e.Verdict = 255 },
	} {
		e := base
		change(&e)
		rows[name] = []api.Entry{e}
	}
	seen := map[uint64]string{}
	for name, row := range rows {
		h := logged(t, row...).Chain(high())
		if other, is := seen[h]; is {
			t.Errorf("P1402: Chain of %s is that of %s", name, other)
		}
		seen[h] = name
	}
	moved := base
	moved.Label = bottom()
	if logged(t, moved).Chain(bottom()) == logged(t, base).Chain(high()) {
		t.Error("P1402: Chain does not go by the label")
	}
	renumbered := base
	renumbered.Seq = 12345
	if logged(t, renumbered).Chain(high()) != logged(t, base).Chain(high()) {
		t.Error("P1402: Chain goes by a Seq that is not asked")
	}
}

func TestChainIsOfWhatIsParsed(t *testing.T) { // P1402: by the bytes, from which the entries can be read again
	var row []api.Entry
	for i := range 40 {
		row = append(row, entry(high(), i*7), entry(bottom(), i))
	}
	l := logged(t, row...)
	again := audit.New()
	for _, e := range l.All(high()) {
		back, err := node.ParseEntry(node.EncodeEntry(e))
		if err != api.OK || back != e || again.Add(back) != api.OK {
			t.Errorf("P1003: %+v is read as %+v, %v", e, back, err)
		}
	}
	if !slices.Equal(again.All(high()), l.All(high())) || again.Chain(high()) != l.Chain(high()) {
		t.Error("P1402: a log of the same entries is another one")
	}
}

func TestExample(t *testing.T) { // the chapter's example 1
	e := api.Entry{Seq: 1, Label: bottom(), User: "a", Verb: api.VSeg, Object: "/x", Verdict: api.OK}
	if s := audit.Text(e); s != "1 0.0.3.255 a seg /x ok" {
		t.Errorf("P1402: %s", s)
	}
}

func TestTextOfVerbs(t *testing.T) { // P1402
	for verb, word := range map[int]string{
		api.VLogin: "login", api.VSeg: "seg", api.VDir: "dir", api.VDel: "del", api.VAcl: "acl", api.VRings: "rings", api.VPut: "put",
		api.VGet: "get", api.VList: "list", api.VRun: "run", api.VSend: "send", api.VTake: "take", api.VRelease: "release", api.VDeny: "deny",
	} {
		e := api.Entry{Seq: 3, Label: high(), User: "ann", Verb: verb, Object: "/a/b", Verdict: api.ErrQuota}
		if s := audit.Text(e); s != "3 1.2.2.8 ann "+word+" /a/b quota" {
			t.Errorf("P1402: Text of verb %d: %s", verb, s)
		}
	}
}

func TestTextOfVerdicts(t *testing.T) { // P1402: numbers that no error has are told by one word
	words := map[api.Errno]string{
		0: "ok", 1: "arg", 2: "none", 3: "kind", 4: "many", 5: "long", 6: "word", 7: "is", 8: "cut", 9: "more",
		11: "bad", 12: "dead", 13: "full", 14: "busy", 15: "label", 16: "acl", 17: "quota", 18: "log", 19: "rule", 20: "login", 21: "name",
		31: "read", 32: "write", 33: "exec", 34: "gate", 35: "bound", 36: "op", 37: "stack",
	}
	for v := range api.Errno(256) {
		word, is := words[v]
		if !is {
			word = "error"
		}
		if s := audit.Text(api.Entry{Seq: 12, Label: top(), User: "bob", Verb: api.VTake, Object: "/", Verdict: v}); s != "12 3.255.0.0 bob take / "+word {
			t.Errorf("P1402: Text of verdict %d: %s", v, s)
		}
	}
}

func TestTextAtEdges(t *testing.T) { // P1402
	long := strings.Repeat("q", 78)
	for _, x := range []struct {
		e    api.Entry
		want string
	}{
		{api.Entry{Seq: 1, Label: bottom(), Verb: 1, Object: "t0"}, "1 0.0.3.255 - login t0 ok"},
		{api.Entry{Seq: 2, Label: bottom(), User: "ann", Verb: 12}, "2 0.0.3.255 ann take - ok"},
		{api.Entry{Seq: 9, Label: lab(0, 0, 0, 0), Verb: 14, Verdict: 19}, "9 0.0.0.0 - deny - rule"},
		{api.Entry{Seq: 10, Label: high(), User: "-", Verb: 9, Object: "-", Verdict: 2}, "10 1.2.2.8 - list - none"},
		{api.Entry{Seq: 40, Label: lab(3, 255, 3, 255), User: long, Verb: 13, Object: long, Verdict: 255}, "40 3.255.3.255 " + long + " release " + long + " error"},
		{api.Entry{Seq: 123, Label: high(), User: "a b", Verb: 11, Object: " ", Verdict: 10}, "123 1.2.2.8 a b send   error"},
		{api.Entry{Seq: 1000000, Label: high(), User: "é\xff", Verb: 10, Object: "/p", Verdict: 37}, "1000000 1.2.2.8 é\xff run /p stack"},
		{api.Entry{Seq: 0, Label: high(), User: "a", Verb: 7, Object: "/p", Verdict: 32}, "0 1.2.2.8 a put /p write"},
	} {
		if s := audit.Text(x.e); s != x.want {
			t.Errorf("P1402: Text of %+v: %q, not %q", x.e, s, x.want)
		}
	}
}

func TestTextOfLog(t *testing.T) { // P1402: of a log's own entries, with the numbers that it gave them
	l := logged(t, filled(high(), 40)...)
	for i, e := range l.All(high()) {
		front, back := fmt.Sprintf("%d 1.2.2.8 u%d ", i+1, i), fmt.Sprintf(" /o%d %s", i, api.Errno(i).Error())
		if s := audit.Text(e); !strings.HasPrefix(s, front) || !strings.HasSuffix(s, back) || strings.Count(s, " ") != 5 {
			t.Errorf("P1402: Text of entry %d: %s", i+1, s)
		}
	}
}

// scrawl writes over a list and its spare room.
func scrawl(l []api.Entry) {
	l = l[:cap(l)]
	for i := range l {
		l[i] = api.Entry{Seq: -1, Label: top(), User: "scrawl", Verb: 77, Object: "scrawl", Verdict: -1}
	}
}

func TestMemory(t *testing.T) { // P2, P3, P1403: what is told is nobody else's, and stays as it was told
	l := audit.New()
	var row []api.Entry
	labels := []api.Label{bottom(), high(), top()}
	var told, was [][]api.Entry
	for i := range 130 {
		e := entry(labels[i%3], i)
		if l.Add(e) == api.OK {
			row = append(row, e)
		}
		for _, at := range labels {
			for _, ask := range []func(api.Label) []api.Entry{l.All, l.Seen} {
				first, second, third := ask(at), ask(at), ask(at)
				if !slices.Equal(first, second) {
					t.Fatalf("P3: %+v, then %+v", first, second)
				}
				told, was = append(told, third), append(was, slices.Clone(third))
				scrawl(first)
				if !slices.Equal(second, third) {
					t.Fatalf("P2: one answer is changed by a change of another one")
				}
				_ = append(second, api.Entry{User: "scrawl"})
			}
		}
		hold(t, "P2", l, row, labels...)
	}
	for i := range told {
		if !slices.Equal(told[i], was[i]) {
			t.Errorf("P2: answer %d is changed by later calls", i)
		}
	}
	if len(row) != 120 {
		t.Errorf("the test is wrong: %d", len(row))
	}
}

func TestTwoLogs(t *testing.T) { // P7
	a, b := audit.New(), audit.New()
	var rowA, rowB []api.Entry
	for i := range 40 {
		x, y := entry(high(), i), entry([]api.Label{high(), bottom()}[i%2], 200+i)
		if a.Add(x) != api.OK || b.Add(y) != api.OK {
			t.Errorf("P7: Adds %d are refused", i)
		}
		rowA, rowB = append(rowA, x), append(rowB, y)
		hold(t, "P7", a, rowA, high(), bottom(), top())
		hold(t, "P7", b, rowB, high(), bottom(), top())
	}
	if !a.Full(high()) || b.Full(high()) || b.Add(entry(high(), 5)) != api.OK || a.Add(entry(high(), 5)) != api.ErrLog {
		t.Error("P7: one log is full by another one's entries")
	}
	hold(t, "P7", audit.New(), nil, high(), bottom(), top())
}

func TestWhatMayNotBe(t *testing.T) { // P1, P2, P8: no panic, an end, and nothing changed
	row := append(filled(high(), 40), filled(bottom(), 7)...)
	l := logged(t, row...)
	for range 3 {
		for _, at := range mayNotBe() {
			l.Full(at)
			scrawl(l.All(at))
			scrawl(l.Seen(at))
			l.Chain(at)
			if e := l.Add(entry(at, 1)); e != api.ErrArg {
				t.Errorf("P1401: Add at %v: %v", at, e)
			}
		}
		hold(t, "P8", l, row, high(), bottom(), top())
	}
	numbers := []int{math.MinInt, -1 << 32, -256, -15, -1, 0, 15, 16, 255, 256, 1 << 32, math.MaxInt}
	for _, n := range numbers {
		for _, m := range numbers {
			audit.Text(api.Entry{Seq: n, Label: lab(m, n, m, n), Verb: m, Verdict: api.Errno(n)})
		}
	}
	huge := strings.Repeat("x", 1<<20)
	audit.Text(api.Entry{User: huge, Object: huge})
	if e := l.Add(api.Entry{Label: bottom(), Verb: 1, User: huge}); e != api.ErrArg {
		t.Errorf("P1401: Add of a user of %d bytes: %v", len(huge), e)
	}
}
