package trace_test

import (
	"bytes"
	"math"
	"math/rand"
	"slices"
	"testing"

	"tankard/api"
	"tankard/trace"
)

const (
	maxTime  = 1 << 40
	maxData  = 64
	maxSpans = 100
)

func sp(trace, id uint64, start, end int64, data string) api.Span {
	s := api.Span{Trace: trace, Id: id, Start: start, End: end}
	if data != "" {
		s.Data = []byte(data)
	}
	return s
}

func tr(id uint64, l ...api.Span) api.Trace { return api.Trace{Id: id, Spans: l} }

func same(a, b api.Span) bool {
	return a.Trace == b.Trace && a.Id == b.Id && a.Start == b.Start && a.End == b.End && string(a.Data) == string(b.Data)
}

func sameSpans(a, b []api.Span) bool { return slices.EqualFunc(a, b, same) }

func sameTraces(a, b []api.Trace) bool {
	return slices.EqualFunc(a, b, func(a, b api.Trace) bool { return a.Id == b.Id && sameSpans(a.Spans, b.Spans) })
}

func cloned(l []api.Span) []api.Span {
	out := slices.Clone(l)
	for i := range out {
		out[i].Data = bytes.Clone(out[i].Data)
	}
	return out
}

func clonedTraces(l []api.Trace) []api.Trace {
	out := slices.Clone(l)
	for i := range out {
		out[i].Spans = cloned(out[i].Spans)
	}
	return out
}

func expectSpans(t *testing.T, what string, got, want []api.Span) {
	t.Helper()
	if !sameSpans(got, want) {
		t.Errorf("%s: %v, want %v", what, got, want)
	}
}

// counts is the chapter's rule of two of one Trace and one Id: whether a is the
// one that counts.
func counts(a, b api.Span) bool {
	if a.Start != b.Start {
		return a.Start < b.Start
	}
	if a.End != b.End {
		return a.End < b.End
	}
	return string(a.Data) < string(b.Data)
}

// ahead is the order of layer 3.
func ahead(a, b api.Span) bool {
	if a.Start != b.Start {
		return a.Start < b.Start
	}
	if a.Id != b.Id {
		return a.Id < b.Id
	}
	return a.Trace < b.Trace
}

// wantGathered is the chapter's rule, one span at a time.
func wantGathered(l []api.Span) []api.Span {
	type key struct{ trace, id uint64 }
	least := map[key]api.Span{}
	for _, s := range l {
		k := key{s.Trace, s.Id}
		if old, ok := least[k]; !ok || counts(s, old) {
			least[k] = s
		}
	}
	var out []api.Span
	for _, s := range least {
		at := 0
		for at < len(out) && ahead(out[at], s) {
			at++
		}
		out = slices.Insert(out, at, s)
	}
	return out
}

func wantOf(l []api.Span, id uint64) []api.Span {
	return wantGathered(slices.DeleteFunc(slices.Clone(l), func(s api.Span) bool { return s.Trace != id }))
}

func wantGroups(l []api.Span) []api.Trace {
	ids := map[uint64]int{}
	for _, s := range l {
		ids[s.Trace]++
	}
	var sorted []uint64
	for id := range ids {
		sorted = append(sorted, id)
	}
	slices.Sort(sorted)
	var out []api.Trace
	for _, id := range sorted {
		out = append(out, tr(id, wantOf(l, id)...))
	}
	return out
}

// wantIs is the chapter's rule, all pairs of it.
func wantIs(l []api.Trace) bool {
	for i, t := range l {
		if i > 0 && t.Id <= l[i-1].Id || len(t.Spans) == 0 || len(t.Spans) > maxSpans {
			return false
		}
		for j, s := range t.Spans {
			if s.Trace != t.Id || s.Start < 0 || s.End < s.Start || s.End > maxTime || len(s.Data) > maxData {
				return false
			}
			for _, earlier := range t.Spans[:j] {
				if ahead(s, earlier) || s.Id == earlier.Id {
					return false
				}
			}
		}
	}
	return true
}

// anySpans makes spans that often have a Trace, an Id, or all, in common, and
// that may not always be.
func anySpans(r *rand.Rand, most int) []api.Span {
	ids := []uint64{0, 1, 2, 1 << 63, math.MaxUint64}
	times := []int64{math.MinInt64, -1, 0, 1, 2, maxTime, math.MaxInt64}
	texts := []string{"", "\x00", "a", "ab", "b", "\xff", "a\x00"}
	pick := 2 + r.Intn(6)
	l := make([]api.Span, r.Intn(most+1))
	for i := range l {
		l[i] = sp(ids[r.Intn(min(pick, len(ids)))], ids[r.Intn(min(pick, len(ids)))],
			times[r.Intn(min(pick, len(times)))], times[r.Intn(min(pick, len(times)))], texts[r.Intn(min(pick, len(texts)))])
	}
	return l
}

// row is a trace of n spans that is canonical, if n is from 1 to 100.
func row(id uint64, n int) api.Trace {
	t := api.Trace{Id: id}
	for i := range n {
		t.Spans = append(t.Spans, sp(id, uint64(i), int64(i/3), int64(i/3), ""))
	}
	return t
}

func TestIsOfCanonicalOnes(t *testing.T) { // P4.1
	full := string(make([]byte, maxData))
	for i, l := range [][]api.Trace{
		nil,
		{},
		{tr(0, sp(0, 0, 0, 0, ""))},
		{row(7, 1)},
		{row(7, 2)},
		{row(7, maxSpans-1)},
		{row(7, maxSpans)},
		{row(1, maxSpans), row(2, 1), row(3, maxSpans)},
		{row(0, 1), row(1, 1), row(1<<63-1, 1), row(1<<63, 1), row(math.MaxUint64, 1)},
		{tr(1, sp(1, 5, 0, maxTime, full), sp(1, 4, maxTime, maxTime, full))},
		{tr(1, sp(1, 4, 3, 9, ""), sp(1, 5, 3, 3, ""), sp(1, 1<<63, 3, 4, ""), sp(1, math.MaxUint64, 3, 3, ""), sp(1, 0, 4, 4, ""))},
		// One Id may be in several traces.
		{tr(1, sp(1, 4, 3, 9, "a")), tr(2, sp(2, 4, 3, 9, "a"))},
		// Times of one trace have no say on those of the next.
		{tr(1, sp(1, 4, 8, 9, "")), tr(2, sp(2, 3, 0, 0, ""))},
	} {
		if !trace.Is(l) || !wantIs(l) {
			t.Errorf("%d: %v", i, l)
		}
	}
}

func TestIsOfTracesThatDoNotRise(t *testing.T) { // P4.1
	for i, l := range [][]api.Trace{
		{row(1, 1), row(1, 1)},
		{row(0, 1), row(0, 1)},
		{row(math.MaxUint64, 1), row(math.MaxUint64, 1)},
		{row(2, 1), row(1, 1)},
		{row(1, 1), row(2, 1), row(2, 1)},
		{row(1, 1), row(3, 1), row(2, 1)},
		{row(2, 1), row(3, 1), row(2, 1)},
		{row(2, 1), row(1, 1), row(3, 1)},
		{row(1<<63, 1), row(1, 1)},
		{row(math.MaxUint64, 1), row(0, 1)},
		{tr(1, sp(1, 1, 1, 1, "")), tr(1, sp(1, 2, 2, 2, ""))},
	} {
		if trace.Is(l) || wantIs(l) {
			t.Errorf("%d: %v", i, l)
		}
	}
}

func TestIsOfATraceThatIsNotCanonical(t *testing.T) { // P4.1
	bad := func(n, at int, alter func(s *api.Span)) api.Trace {
		x := row(5, n)
		alter(&x.Spans[at])
		return x
	}
	large := make([]byte, maxData+1)
	wrong := []api.Trace{
		{Id: 5},
		{Id: 5, Spans: []api.Span{}},
		row(5, maxSpans+1),
		row(5, 1000),
	}
	for _, n := range []int{1, 2, 3, maxSpans} {
		for _, at := range []int{0, n / 2, n - 1} {
			wrong = append(wrong,
				bad(n, at, func(s *api.Span) { s.Trace = 4 }),
				bad(n, at, func(s *api.Span) { s.Trace = 6 }),
				bad(n, at, func(s *api.Span) { s.Start = -1 }),
				bad(n, at, func(s *api.Span) { s.Start, s.End = -1, -1 }),
				bad(n, at, func(s *api.Span) { s.End = s.Start - 1 }),
				bad(n, at, func(s *api.Span) { s.End = maxTime + 1 }),
				bad(n, at, func(s *api.Span) { s.End = math.MaxInt64 }),
				bad(n, at, func(s *api.Span) { s.Data = large }),
			)
		}
	}
	wrong = append(wrong,
		// Out of order: by Start, by Id of one Start; at either end.
		tr(5, sp(5, 1, 2, 9, ""), sp(5, 2, 1, 9, "")),
		tr(5, sp(5, 2, 2, 9, ""), sp(5, 1, 2, 9, "")),
		tr(5, sp(5, 1<<63, 2, 9, ""), sp(5, 1, 2, 9, "")),
		tr(5, sp(5, 2, 2, 9, ""), sp(5, 1, 2, 9, ""), sp(5, 3, 3, 9, "")),
		tr(5, sp(5, 1, 1, 9, ""), sp(5, 3, 3, 9, ""), sp(5, 2, 2, 9, "")),
		// Two of one Id: the same ones, alike in order, and apart.
		tr(5, sp(5, 1, 2, 9, "a"), sp(5, 1, 2, 9, "a")),
		tr(5, sp(5, 0, 0, 0, ""), sp(5, 0, 0, 0, "")),
		tr(5, sp(5, 1, 2, 8, ""), sp(5, 1, 2, 9, "")),
		tr(5, sp(5, 1, 2, 9, "a"), sp(5, 1, 2, 9, "b")),
		tr(5, sp(5, 1, 2, 9, ""), sp(5, 1, 3, 9, "")),
		tr(5, sp(5, 1, 2, 9, ""), sp(5, 2, 3, 9, ""), sp(5, 1, 4, 9, "")),
		tr(5, sp(5, 1, 2, 9, ""), sp(5, 2, 3, 9, ""), sp(5, 3, 4, 9, ""), sp(5, 2, 5, 9, "")),
	)
	for i, x := range wrong {
		for _, l := range [][]api.Trace{{x}, {row(1, 1), x}, {x, row(9, 1)}, {row(1, 2), row(3, 1), x, row(9, 3)}} {
			if trace.Is(l) || wantIs(l) {
				t.Errorf("%d: %v", i, l)
			}
		}
	}
}

func TestIsOfAnyTraces(t *testing.T) { // P4.1
	r := rand.New(rand.NewSource(1))
	canonical := 0
	for range 20000 {
		l := trace.Group(anySpans(r, 6))
		// What is grouped is mostly canonical: one thing more may be altered.
		if len(l) > 0 {
			x := &l[r.Intn(len(l))]
			i, j := r.Intn(len(x.Spans)), r.Intn(len(x.Spans))
			switch r.Intn(6) {
			case 0:
				x.Spans[i], x.Spans[j] = x.Spans[j], x.Spans[i]
			case 1:
				x.Spans[i].Id = x.Spans[j].Id
			case 2:
				x.Id = uint64(r.Intn(3))
			case 3:
				x.Spans = append(x.Spans, x.Spans[i])
			}
		}
		want := wantIs(l)
		if want {
			canonical++
		}
		if trace.Is(l) != want {
			t.Fatalf("Is(%v): %v", l, !want)
		}
	}
	if canonical < 1000 || canonical > 19000 {
		t.Errorf("%d of 20000 are canonical: the test's lists say little", canonical)
	}
}

// expectOne holds that of two of one Trace and one Id the first one counts, by
// every call that gathers, wherever each one stands.
func expectOne(t *testing.T, least, other api.Span) {
	t.Helper()
	id := least.Trace
	before, behind := sp(id, 1, math.MinInt64, 0, ""), sp(id, 99, math.MaxInt64, 0, "")
	want := []api.Span{before, least, behind}
	for _, l := range [][]api.Span{
		{least, other, before, behind},
		{other, least, behind, before},
		{before, other, behind, least},
		{other, other, before, behind, least, other},
		{least, behind, least, before, other, least},
	} {
		expectSpans(t, "Gather", trace.Gather(l), want)
		expectSpans(t, "Of", trace.Of(l, id), want)
		if g := trace.Group(l); len(g) != 1 || g[0].Id != id || !sameSpans(g[0].Spans, want) {
			t.Errorf("Group: %v, want the spans %v", g, want)
		}
		for cut := range len(l) + 1 {
			expectSpans(t, "Merge", trace.Merge(l[:cut], l[cut:]), want)
		}
	}
}

func TestTheLeastOfOneIdCounts(t *testing.T) { // P4.1, P4.2
	// Each is less than those behind it.
	rising := []api.Span{
		sp(5, 5, math.MinInt64, 1, "x"),
		sp(5, 5, -1, math.MinInt64, "x"),
		sp(5, 5, -1, 0, "x"),
		sp(5, 5, 0, math.MaxInt64, "x"),
		sp(5, 5, 1, -1, "zz"),
		sp(5, 5, 1, 0, "z"),
		sp(5, 5, 1, 1, "y"),
		sp(5, 5, 1, maxTime, ""),
		sp(5, 5, 1, maxTime, "\x00"),
		sp(5, 5, 1, maxTime, "\x00\x00"),
		sp(5, 5, 1, maxTime, "\x00\x01"),
		sp(5, 5, 1, maxTime, "\x01"),
		sp(5, 5, 1, maxTime, "a"),
		sp(5, 5, 1, maxTime, "a\x00"),
		sp(5, 5, 1, maxTime, "aa"),
		sp(5, 5, 1, maxTime, "ab"),
		sp(5, 5, 1, maxTime, "b"),
		sp(5, 5, 1, maxTime, "b\xff"),
		sp(5, 5, 1, maxTime, "c"),
		sp(5, 5, 1, maxTime, "\x7f"),
		sp(5, 5, 1, maxTime, "\x80"),
		sp(5, 5, 1, maxTime, "\xff"),
		sp(5, 5, 1, maxTime, string(bytes.Repeat([]byte{255}, 300))),
		sp(5, 5, 2, -7, ""),
		sp(5, 5, maxTime, 0, ""),
		sp(5, 5, math.MaxInt64, math.MinInt64, ""),
	}
	for i, least := range rising {
		expectOne(t, least, least)
		for _, other := range rising[i+1:] {
			expectOne(t, least, other)
		}
	}
}

func TestOnesOfOtherIdsOrTracesAllCount(t *testing.T) { // P4.1
	l := []api.Span{
		sp(2, 1, 5, 9, "a"), sp(1, 2, 5, 9, "a"), sp(1, 1, 5, 9, "a"), sp(2, 2, 5, 9, "a"),
		sp(3, 1, 4, 9, "a"), sp(1, 3, 6, 9, "a"), sp(1<<63, 1, 5, 9, "a"), sp(1, 1<<63, 5, 9, "a"),
	}
	want := []api.Span{
		sp(3, 1, 4, 9, "a"), sp(1, 1, 5, 9, "a"), sp(2, 1, 5, 9, "a"), sp(1<<63, 1, 5, 9, "a"),
		sp(1, 2, 5, 9, "a"), sp(2, 2, 5, 9, "a"), sp(1, 1<<63, 5, 9, "a"), sp(1, 3, 6, 9, "a"),
	}
	expectSpans(t, "Gather", trace.Gather(l), want)
	slices.Reverse(l)
	expectSpans(t, "Gather", trace.Gather(l), want)
}

func TestGatheredStandInOrderOfWhatCounts(t *testing.T) { // P4.1
	// Where the least one stands hangs on its own Start, not on that of others.
	l := []api.Span{sp(1, 7, 9, 9, "late"), sp(1, 8, 5, 6, ""), sp(1, 7, 2, 3, "early"), sp(1, 6, 2, 3, ""), sp(1, 9, 2, 2, "")}
	want := []api.Span{l[3], l[2], l[4], l[1]}
	expectSpans(t, "Gather", trace.Gather(l), want)
	expectSpans(t, "Merge", trace.Merge(l[:1], l[1:]), want)
	expectSpans(t, "Of", trace.Of(l, 1), want)
}

func TestOfTellsOneTrace(t *testing.T) { // P4.1
	l := []api.Span{
		sp(2, 1, 5, 9, "b"), sp(1, 1, 1, 1, ""), sp(2, 1, 5, 9, "a"), sp(0, 1, 0, 0, ""),
		sp(2, 3, 4, 4, ""), sp(math.MaxUint64, 1, 1, 1, ""), sp(2, 2, 6, 6, ""),
	}
	expectSpans(t, "Of 2", trace.Of(l, 2), []api.Span{l[4], l[2], l[6]})
	expectSpans(t, "Of 1", trace.Of(l, 1), []api.Span{l[1]})
	expectSpans(t, "Of 0", trace.Of(l, 0), []api.Span{l[3]})
	expectSpans(t, "Of 2^64 - 1", trace.Of(l, math.MaxUint64), []api.Span{l[5]})
	expectSpans(t, "Of 3", trace.Of(l, 3), nil)
	expectSpans(t, "Of 0 in none", trace.Of(nil, 0), nil)
}

func TestGroupTellsTracesThatRise(t *testing.T) { // P4.2
	l := []api.Span{
		sp(1<<63, 1, 0, 1, ""), sp(2, 1, 5, 9, "b"), sp(1, 4, 1, 1, ""), sp(2, 1, 5, 9, "a"),
		sp(2, 3, 4, 4, ""), sp(0, 1, 9, 9, ""), sp(math.MaxUint64, 0, 0, 0, ""), sp(1, 4, 1, 2, ""),
	}
	want := []api.Trace{tr(0, l[5]), tr(1, l[2]), tr(2, l[4], l[3]), tr(1<<63, l[0]), tr(math.MaxUint64, l[6])}
	if g := trace.Group(l); !sameTraces(g, want) || !trace.Is(g) {
		t.Errorf("Group: %v, want %v", g, want)
	}
	for _, l := range [][]api.Span{nil, {}} {
		if g := trace.Group(l); len(g) != 0 {
			t.Errorf("Group of none: %v", g)
		}
	}
}

func TestGroupTellsMoreThanMaxSpansToo(t *testing.T) { // P4.2
	for _, n := range []int{maxSpans, maxSpans + 1, 5000} {
		first, second := row(3, n), row(4, n)
		l := slices.Concat(second.Spans, first.Spans)
		slices.Reverse(l)
		g := trace.Group(l)
		if !sameTraces(g, []api.Trace{first, second}) {
			t.Errorf("Group of twice %d spans tells %d traces, otherwise", n, len(g))
		}
		if trace.Is(g) != (n <= maxSpans) {
			t.Errorf("Is of twice %d spans: %v", n, n > maxSpans)
		}
	}
}

func TestFlatTellsAllAsTheyStand(t *testing.T) { // P4.2
	a, b, c := sp(1, 4, 9, 1, "z"), sp(7, 4, 0, 1, ""), sp(1, 4, 2, 1, "y")
	for i, x := range []struct {
		l    []api.Trace
		want []api.Span
	}{
		{nil, nil},
		{[]api.Trace{}, nil},
		{[]api.Trace{{}, {Id: 4}}, nil},
		{[]api.Trace{tr(1, a)}, []api.Span{a}},
		{[]api.Trace{tr(1, a, c)}, []api.Span{a, c}},
		// No order, no gathering: one behind the other.
		{[]api.Trace{tr(9, a, b, a), {}, tr(2, c), tr(9, a)}, []api.Span{a, b, a, c, a}},
	} {
		if got := trace.Flat(x.l); !sameSpans(got, x.want) {
			t.Errorf("%d: %v, want %v", i, got, x.want)
		}
	}
}

// hold holds what is true of all spans against the rules of the chapter: P4.1,
// P4.2 and P4.4.
func hold(t *testing.T, l []api.Span, cut int) {
	t.Helper()
	want := wantGathered(l)
	g := trace.Gather(l)
	expectSpans(t, "Gather", g, want)
	expectSpans(t, "Gather of gathered ones", trace.Gather(g), want)
	expectSpans(t, "Merge", trace.Merge(l[:cut], l[cut:]), want)
	groups := trace.Group(l)
	if !sameTraces(groups, wantGroups(l)) {
		t.Errorf("Group: %v, want %v", groups, wantGroups(l))
	}
	var flat []api.Span
	for _, x := range groups {
		expectSpans(t, "Of", trace.Of(l, x.Id), x.Spans)
		flat = append(flat, x.Spans...)
	}
	expectSpans(t, "Flat", trace.Flat(groups), flat)
	expectSpans(t, "Gather of Flat", trace.Gather(trace.Flat(groups)), want)
	if trace.Is(groups) != wantIs(groups) {
		t.Errorf("Is(%v): %v", groups, !wantIs(groups))
	}
}

func TestAnySpans(t *testing.T) { // P4.1, P4.2
	r := rand.New(rand.NewSource(2))
	for range 10000 {
		l := anySpans(r, 12)
		if hold(t, l, r.Intn(len(l)+1)); t.Failed() {
			t.Fatalf("at %v", l)
		}
	}
	for range 20 {
		l := anySpans(r, 400)
		hold(t, l, len(l)/2)
	}
}

func TestMergingIsTheSameInWhateverOrder(t *testing.T) { // P4.4
	r := rand.New(rand.NewSource(3))
	for range 5000 {
		a, b, c := anySpans(r, 6), anySpans(r, 6), anySpans(r, 6)
		want := wantGathered(slices.Concat(a, b, c))
		for _, p := range [][3][]api.Span{{a, b, c}, {a, c, b}, {b, a, c}, {b, c, a}, {c, a, b}, {c, b, a}} {
			expectSpans(t, "the first two first", trace.Merge(trace.Merge(p[0], p[1]), p[2]), want)
			expectSpans(t, "the last two first", trace.Merge(p[0], trace.Merge(p[1], p[2])), want)
		}
		expectSpans(t, "with itself", trace.Merge(want, want), want)
		expectSpans(t, "with what it has", trace.Merge(want, b), want)
		expectSpans(t, "with none", trace.Merge(nil, want), want)
		expectSpans(t, "with none", trace.Merge(want, []api.Span{}), want)
		if t.Failed() {
			t.Fatalf("at %v, %v, %v", a, b, c)
		}
	}
}

func TestAllThatAnyHasIsThereOnce(t *testing.T) { // P4.4
	type key struct{ trace, id uint64 }
	r := rand.New(rand.NewSource(4))
	for range 2000 {
		a, b := anySpans(r, 8), anySpans(r, 8)
		has := map[key]int{}
		for _, s := range slices.Concat(a, b) {
			has[key{s.Trace, s.Id}] = 0
		}
		m := trace.Merge(a, b)
		for _, s := range m {
			has[key{s.Trace, s.Id}]++
		}
		for k, n := range has {
			if n != 1 {
				t.Fatalf("Merge(%v, %v) tells %v %d times: %v", a, b, k, n, m)
			}
		}
	}
}

// samples are spans, some of one Trace and Id, whose lists and Data have room
// behind them, that is the caller's.
func samples() []api.Span {
	l := []api.Span{
		sp(2, 1, 5, 9, "bcd"), sp(1, 1, 7, 9, "x"), sp(1, 1, 7, 8, "b"), sp(1, 1, 7, 8, "a"), sp(1, 3, 1, 1, "yy"),
		sp(2, 2, 5, 5, ""), sp(1, 1, 7, 8, "a"), sp(3, 1, 0, 4, "zzz"), sp(1, 4, 1, 1, "q"),
	}
	for i := range l {
		l[i].Data = append(make([]byte, 0, 70), l[i].Data...)
	}
	return append(make([]api.Span, 0, 2*len(l)), l...)
}

// calls are the calls that tell spans, each with its answer's spans in one list.
func calls() map[string]func(l []api.Span) [][]api.Span {
	spansOf := func(l []api.Trace) [][]api.Span {
		var out [][]api.Span
		for _, x := range l {
			out = append(out, x.Spans)
		}
		return out
	}
	return map[string]func(l []api.Span) [][]api.Span{
		"Gather":                 func(l []api.Span) [][]api.Span { return [][]api.Span{trace.Gather(l)} },
		"Merge":                  func(l []api.Span) [][]api.Span { return [][]api.Span{trace.Merge(l[:3], l[3:])} },
		"Merge with none ahead":  func(l []api.Span) [][]api.Span { return [][]api.Span{trace.Merge(nil, l)} },
		"Merge with none behind": func(l []api.Span) [][]api.Span { return [][]api.Span{trace.Merge(l, nil)} },
		"Merge with itself":      func(l []api.Span) [][]api.Span { return [][]api.Span{trace.Merge(l, l)} },
		"Of":                     func(l []api.Span) [][]api.Span { return [][]api.Span{trace.Of(l, 1)} },
		"Group":                  func(l []api.Span) [][]api.Span { return spansOf(trace.Group(l)) },
		"Group of one":           func(l []api.Span) [][]api.Span { return spansOf(trace.Group(l[:1])) },
		"Flat": func(l []api.Span) [][]api.Span {
			return [][]api.Span{trace.Flat([]api.Trace{tr(1, l...), {Id: 2, Spans: l[:2]}, tr(1, l...)})}
		},
		"Flat of one": func(l []api.Span) [][]api.Span { return [][]api.Span{trace.Flat([]api.Trace{tr(1, l...)})} },
	}
}

func TestNothingHandedInIsChanged(t *testing.T) { // P4.3
	whole := func(l []api.Span) []api.Span {
		w := cloned(l[:cap(l)])
		for i := range l {
			w[i].Data = bytes.Clone(l[i].Data[:cap(l[i].Data)])
		}
		return w
	}
	for name, call := range calls() {
		l := samples()
		before := whole(l)
		call(l)
		if !sameSpans(whole(l), before) || !sameSpans(l, samples()) {
			t.Errorf("%s changed its list, or what stands behind it", name)
		}
	}
	for _, ts := range [][]api.Trace{trace.Group(samples()), {tr(1, samples()...), {}, tr(2, samples()...)}} {
		before := clonedTraces(ts)
		trace.Is(ts)
		trace.Flat(ts)
		if !sameTraces(ts, before) {
			t.Error("Is, or Flat, changed its traces")
		}
	}
}

func TestWhatIsToldIsNewMemory(t *testing.T) { // P4.3
	overwrite := func(l []api.Span) {
		for i := range l {
			data := l[i].Data[:cap(l[i].Data)]
			for j := range data {
				data[j] = 99
			}
		}
		clear(l[:cap(l)])
	}
	for name, call := range calls() {
		want := call(samples())
		// Neither does the answer change with what was handed in ..
		l := samples()
		got, other := call(l), call(l)
		overwrite(l)
		// .. nor with another answer ..
		for _, o := range other {
			overwrite(o)
		}
		if !slices.EqualFunc(got, want, sameSpans) {
			t.Errorf("%s told memory of what was handed in, or of another answer", name)
		}
		// .. nor the other way round.
		l = samples()
		for _, o := range call(l) {
			overwrite(o)
		}
		if !sameSpans(l, samples()) {
			t.Errorf("%s told memory of what was handed in", name)
		}
	}
}

func TestNoTwoListsOfAnAnswerShareMemory(t *testing.T) { // P4.3
	for name, call := range calls() {
		want := call(samples())
		for i := range want {
			got := call(samples())
			for j := range got[i][:cap(got[i])] {
				got[i][:cap(got[i])][j] = sp(77, 77, 77, 77, "77")
			}
			for j := range got {
				if j != i && !sameSpans(got[j], want[j]) {
					t.Errorf("%s: lists %d and %d share memory", name, i, j)
				}
			}
			for k := range want[i] {
				got := call(samples())
				data := got[i][k].Data
				for j := range data[:cap(data)] {
					data[:cap(data)][j] = 99
				}
				got[i][k].Data = want[i][k].Data
				if !slices.EqualFunc(got, want, sameSpans) {
					t.Errorf("%s: the Data of span %d of list %d is that of another one, too", name, k, i)
				}
			}
		}
	}
}

func TestNoArgumentMakesItPanic(t *testing.T) { // P1 of DOC.md
	large := []api.Span{{Data: make([]byte, 1<<20)}, {Data: make([]byte, 1<<20)}, {Data: make([]byte, 1<<20+1)}}
	expectSpans(t, "Gather of large ones", trace.Gather(large), large[:1])
	expectSpans(t, "Merge of none", trace.Merge(nil, nil), nil)
	expectSpans(t, "Gather of none", trace.Gather(nil), nil)
	expectSpans(t, "Gather of none", trace.Gather([]api.Span{}), nil)
	if trace.Is([]api.Trace{tr(0, large...)}) {
		t.Error("Is of large ones")
	}
	var many []api.Span
	for i := range 100000 {
		many = append(many, sp(uint64(i%7), uint64(i%30011)*0x9e3779b97f4a7c15, int64(i%11), int64(-i), ""))
	}
	n := 0
	for _, x := range trace.Group(many) {
		n += len(x.Spans)
	}
	if g := trace.Gather(many); len(g) != n || len(trace.Flat(trace.Group(many))) != n {
		t.Errorf("of many: %d gathered, %d grouped", len(g), n)
	}
}

func FuzzGather(f *testing.F) {
	f.Add([]byte{}, 0)
	f.Add([]byte{1, 1, 7, 9, 0, 1, 1, 7, 8, 'b', 1, 1, 7, 8, 'a', 1, 3, 1, 1, 0, 2, 1, 5, 5, 0}, 2)
	f.Fuzz(func(t *testing.T, b []byte, cut int) {
		var l []api.Span
		for ; len(b) >= 5; b = b[5:] {
			s := sp(uint64(b[0]), uint64(b[1]), int64(b[2])-1, int64(b[3])-1, "")
			s.Data = bytes.Repeat([]byte{b[4]}, int(b[4]%4))
			l = append(l, s)
		}
		hold(t, l, min(max(cut, 0), len(l)))
	})
}
