package kway_test

import (
	"bytes"
	"math"
	"math/rand"
	"slices"
	"strings"
	"testing"

	"tankard/api"
	"tankard/kway"
)

const (
	maxTime  = 1 << 40
	maxData  = 64
	maxSpans = 100
)

// card is one of many that may be alike: less goes by its key alone.
type card struct {
	key  int
	row  int
	name int
}

func byKey(a, b card) bool { return a.key < b.key }

func smaller(a, b int) bool { return a < b }

// cards are named by their rows and places, so that alike ones are told apart.
func cards(rows ...[]int) [][]card {
	l := make([][]card, len(rows))
	for i, keys := range rows {
		for j, key := range keys {
			l[i] = append(l[i], card{key, i + 1, j + 1})
		}
	}
	return l
}

// wantSorted is the chapter's rule, one at a time: of all that are left, an earlier
// row's first, the first one than which no other is less.
func wantSorted(l [][]card) []card {
	left := slices.Concat(l...)
	var out []card
	for len(left) > 0 {
		i := slices.IndexFunc(left, func(x card) bool {
			return !slices.ContainsFunc(left, func(y card) bool { return byKey(y, x) })
		})
		out = append(out, left[i])
		left = slices.Delete(left, i, i+1)
	}
	return out
}

// rising are all rows of up to most numbers from 0 to kinds-1 that rise.
func rising(kinds, most int) [][]int {
	var out [][]int
	var grow func(l []int, from int)
	grow = func(l []int, from int) {
		out = append(out, l)
		for x := from; x < kinds && len(l) < most; x++ {
			grow(append(slices.Clone(l), x), x)
		}
	}
	grow(nil, 0)
	return out
}

// choices calls f with each list of n of these.
func choices(of [][]int, n int, f func(l [][]int)) {
	var choose func(l [][]int)
	choose = func(l [][]int) {
		if len(l) == n {
			f(l)
			return
		}
		for _, x := range of {
			choose(append(slices.Clone(l), x))
		}
	}
	choose(nil)
}

func expectSorted(t testing.TB, rows ...[]int) {
	t.Helper()
	l := cards(rows...)
	if got, want := kway.Sorted(l, byKey), wantSorted(l); !slices.Equal(got, want) {
		t.Fatalf("Sorted(%v): %v; want %v", rows, got, want)
	}
}

// anyRows are rows of keys that rise, many of them alike.
func anyRows(r *rand.Rand, most, long, kinds int) [][]int {
	rows := make([][]int, r.Intn(most+1))
	for i := range rows {
		for range r.Intn(long + 1) {
			rows[i] = append(rows[i], r.Intn(kinds)-kinds/2)
		}
		slices.Sort(rows[i])
	}
	return rows
}

func TestSortedOfFew(t *testing.T) { // P10.1
	for n := range 4 {
		choices(rising(3, 3), n, func(l [][]int) { expectSorted(t, l...) })
	}
	choices(rising(3, 2), 4, func(l [][]int) { expectSorted(t, l...) })
	choices(rising(2, 1), 6, func(l [][]int) { expectSorted(t, l...) })
	choices(rising(5, 5), 2, func(l [][]int) { expectSorted(t, l...) })
}

func TestSortedOfNone(t *testing.T) { // P10.1
	for i, l := range [][][]int{nil, {}, {nil}, {{}}, {nil, {}, nil}, make([][]int, 1000)} {
		if got := kway.Sorted(l, smaller); len(got) != 0 {
			t.Errorf("%d: %v", i, got)
		}
	}
	if got := kway.Sorted([][]card{nil}, byKey); len(got) != 0 {
		t.Error(got)
	}
}

func TestSortedOfRowsWithoutElementsAmongOthers(t *testing.T) { // P10.1
	expectSorted(t, nil, []int{1, 2}, nil, []int{1}, []int{}, nil)
	expectSorted(t, []int{}, nil, []int{0})
}

func TestSortedOfOneRow(t *testing.T) { // P10.1
	expectSorted(t, []int{7})
	expectSorted(t, []int{math.MinInt, -1, 0, 0, 1, math.MaxInt})
	expectSorted(t, make([]int, 100))
}

func TestSortedTellsAnEarlierRowsAlikeOnesFirst(t *testing.T) { // P10.1
	// Those of the first row, too, that come up only as others are told.
	expectSorted(t, []int{1, 1, 1}, []int{1, 1})
	expectSorted(t, []int{0, 1, 1}, []int{1})
	expectSorted(t, []int{1}, []int{0, 1, 1})
	expectSorted(t, []int{0, 2}, []int{1, 2}, []int{2})
	expectSorted(t, []int{2}, []int{1, 2}, []int{0, 2})
	for n := 1; n < 40; n++ {
		rows := make([][]int, n)
		for i := range rows {
			rows[i] = make([]int, i%4+1)
		}
		expectSorted(t, rows...)
	}
}

func TestSortedOfAnyRows(t *testing.T) { // P10.1
	r := rand.New(rand.NewSource(101))
	for range 3000 {
		expectSorted(t, anyRows(r, 10, 8, 1+r.Intn(12))...)
	}
}

func TestSortedOfMany(t *testing.T) { // P10.1
	r := rand.New(rand.NewSource(102))
	for _, x := range [][3]int{{3, 50000, 1000}, {1000, 100, 10}, {50000, 3, 1 << 30}, {20000, 5, 1}} {
		l := cards(anyRows(r, x[0], x[1], x[2])...)
		// A sort that leaves alike ones as they stand tells the same.
		want := slices.Concat(l...)
		slices.SortStableFunc(want, func(a, b card) int { return a.key - b.key })
		if got := kway.Sorted(l, byKey); !slices.Equal(got, want) {
			t.Errorf("of %v: %d are told otherwise; want %d", x, len(got), len(want))
		}
	}
}

func TestLessTellsTheOrder(t *testing.T) { // P10.1
	down := kway.Sorted([][]int{{3, 1, math.MinInt}, {math.MaxInt, 2}}, func(a, b int) bool { return a > b })
	if want := []int{math.MaxInt, 3, 2, 1, math.MinInt}; !slices.Equal(down, want) {
		t.Errorf("%v; want %v", down, want)
	}
	long := kway.Sorted([][]string{{"", "b", "a", "cc"}, {"a", "bb", "aa"}, {"", "c"}}, func(a, b string) bool { return len(a) < len(b) })
	if want := []string{"", "", "b", "a", "a", "c", "cc", "bb", "aa"}; !slices.Equal(long, want) {
		t.Errorf("%q; want %q", long, want)
	}
	// A less that keeps what it goes by elsewhere.
	ages := map[string]int{"a": 3, "b": 1, "c": 2}
	by := kway.Sorted([][]string{{"c", "a"}, {"b", "a"}}, func(a, b string) bool { return ages[a] < ages[b] })
	if want := []string{"b", "c", "a", "a"}; !slices.Equal(by, want) {
		t.Errorf("%q; want %q", by, want)
	}
	// All are alike.
	none := kway.Sorted([][]int{{3, 1}, {2}, {9, 0}}, func(a, b int) bool { return false })
	if want := []int{3, 1, 2, 9, 0}; !slices.Equal(none, want) {
		t.Errorf("%v; want %v", none, want)
	}
}

func TestSortedOfWhatCannotBeCompared(t *testing.T) { // P10.1
	got := kway.Sorted([][][]int{{{1, 5}, {3}}, {{0}, {1, 4}}}, func(a, b []int) bool { return a[0] < b[0] })
	if want := [][]int{{0}, {1, 5}, {1, 4}, {3}}; !slices.EqualFunc(got, want, slices.Equal) {
		t.Errorf("%v; want %v", got, want)
	}
	one, two := &card{key: 1}, &card{key: 2}
	p := kway.Sorted([][]*card{{one, two}, {one, one}}, func(a, b *card) bool { return a.key < b.key })
	if want := []*card{one, one, one, two}; !slices.Equal(p, want) {
		t.Errorf("%v; want %v", p, want)
	}
	if n := len(kway.Sorted([][]struct{}{{{}, {}}, {{}}}, func(a, b struct{}) bool { return false })); n != 3 {
		t.Errorf("%d; want 3", n)
	}
}

func TestSortedInParts(t *testing.T) { // P10.4
	r := rand.New(rand.NewSource(103))
	for range 2000 {
		l := cards(anyRows(r, 8, 6, 5)...)
		want := kway.Sorted(l, byKey)
		if got := inParts(r, l, func(l [][]card) []card { return kway.Sorted(l, byKey) }); !slices.Equal(got, want) {
			t.Fatalf("of %v: %v in parts; want %v", l, got, want)
		}
	}
}

// inParts merges rows till there is one, some that stand side by side at a time.
func inParts[T any](r *rand.Rand, l [][]T, merge func(l [][]T) []T) []T {
	l = slices.Clone(l)
	for len(l) != 1 {
		from := r.Intn(len(l) + 1)
		to := from + r.Intn(len(l)+1-from)
		l = slices.Replace(l, from, to, merge(l[from:to]))
		if len(l) > 12 {
			return merge(l)
		}
	}
	return merge(l)
}

func TestSortedChangesNothing(t *testing.T) { // P10.3
	r := rand.New(rand.NewSource(104))
	for range 300 {
		l := cards(anyRows(r, 6, 6, 4)...)
		// Each row has room behind it, that is the caller's.
		for i := range l {
			l[i] = append(append(make([]card, 0, 20), l[i]...), card{99, 99, 99})[:len(l[i])]
		}
		rows, whole := slices.Clone(l), make([][]card, len(l))
		for i := range l {
			whole[i] = slices.Clone(l[i][:cap(l[i])])
		}
		got := kway.Sorted(l, byKey)
		for i := range got[:cap(got)] {
			got[:cap(got)][i] = card{77, 77, 77}
		}
		for i := range rows {
			if len(l[i]) != len(rows[i]) || !slices.Equal(rows[i][:cap(rows[i])], whole[i]) {
				t.Fatalf("row %d was changed, or is what was told: %v; was %v", i, rows[i][:cap(rows[i])], whole[i])
			}
		}
	}
}

func TestSortedTellsNewMemory(t *testing.T) { // P10.3
	for _, l := range [][][]int{{{1, 2, 3}}, {{1, 2, 3}, nil}, {{}, {4}}, {{1}, {2}}} {
		got := kway.Sorted(l, smaller)
		other := kway.Sorted(l, smaller)
		want := slices.Clone(got)
		for _, row := range l {
			clear(row)
		}
		clear(other[:cap(other)])
		if !slices.Equal(got, want) {
			t.Errorf("%v; want %v: it is memory of the rows, or of another answer", got, want)
		}
	}
}

func TestSortedDoesNotPanic(t *testing.T) { // P1
	r := rand.New(rand.NewSource(105))
	turn := 0
	for i, less := range []func(a, b float64) bool{
		func(a, b float64) bool { return a < b }, // of what is no number, and of rows that don't rise, too
		func(a, b float64) bool { return a <= b },
		func(a, b float64) bool { return a != b },
		func(a, b float64) bool { return true },
		func(a, b float64) bool { return false },
		func(a, b float64) bool { return r.Intn(2) == 0 },
		func(a, b float64) bool { turn++; return turn%3 == 0 },
	} {
		for range 200 {
			l := make([][]float64, r.Intn(8))
			n := 0
			for i := range l {
				for range r.Intn(8) {
					l[i] = append(l[i], []float64{0, 1, -1, math.NaN(), math.Inf(1), r.Float64()}[r.Intn(6)])
					n++
				}
			}
			if got := kway.Sorted(l, less); len(got) != n {
				t.Errorf("%d: %d of %d are told", i, len(got), n)
			}
		}
	}
}

func TestSortedDoesNotPanicWhoseLessChangesTheRows(t *testing.T) { // P1
	r := rand.New(rand.NewSource(106))
	for range 2000 {
		l := anyRows(r, 6, 6, 4)
		kway.Sorted(l, func(a, b int) bool {
			switch i := r.Intn(len(l)); r.Intn(8) {
			case 0:
				l[i] = nil
			case 1:
				l[i] = l[i][:len(l[i])/2]
			case 2:
				clear(l[i])
			case 3:
				l[i] = append(l[i], 0)
			case 4:
				kway.Sorted(l, smaller)
			}
			return a < b
		})
	}
}

func TestSortedWithoutLess(t *testing.T) { // P1
	// It isn't asked as long as no two rows have anything.
	if got := kway.Sorted[int](nil, nil); len(got) != 0 {
		t.Error(got)
	}
	if got := kway.Sorted([][]int{nil, {2, 1}, {}}, nil); !slices.Equal(got, []int{2, 1}) {
		t.Error(got)
	}
}

func sp(trace, id uint64, start, end int64, data string) api.Span {
	s := api.Span{Trace: trace, Id: id, Start: start, End: end}
	if data != "" {
		s.Data = []byte(data)
	}
	return s
}

func tr(id uint64, l ...api.Span) api.Trace { return api.Trace{Id: id, Spans: l} }

// run is a trace of n spans from that Id on.
func run(id, from uint64, n int) api.Trace {
	t := api.Trace{Id: id}
	for i := range n {
		t.Spans = append(t.Spans, sp(id, from+uint64(i), 5, 5, ""))
	}
	return t
}

func row(l ...api.Trace) []api.Trace { return l }

func same(a, b api.Span) bool {
	return a.Trace == b.Trace && a.Id == b.Id && a.Start == b.Start && a.End == b.End && string(a.Data) == string(b.Data)
}

func sameSpans(a, b []api.Span) bool { return slices.EqualFunc(a, b, same) }

func sameTraces(a, b []api.Trace) bool {
	return slices.EqualFunc(a, b, func(a, b api.Trace) bool { return a.Id == b.Id && sameSpans(a.Spans, b.Spans) })
}

func cloned(l [][]api.Trace) [][]api.Trace {
	out := slices.Clone(l)
	for i := range out {
		out[i] = slices.Clone(out[i])
		for j := range out[i] {
			spans := slices.Clone(out[i][j].Spans)
			for k := range spans {
				spans[k].Data = bytes.Clone(spans[k].Data)
			}
			out[i][j].Spans = spans
		}
	}
	return out
}

// counts is layer 4's rule of two of one Trace and one Id: whether a is the one
// that counts.
func counts(a, b api.Span) bool {
	if a.Start != b.Start {
		return a.Start < b.Start
	}
	if a.End != b.End {
		return a.End < b.End
	}
	return string(a.Data) < string(b.Data)
}

// canonical is layer 4's rule, all pairs of it.
func canonical(l []api.Trace) bool {
	for i, t := range l {
		if i > 0 && t.Id <= l[i-1].Id || len(t.Spans) == 0 || len(t.Spans) > maxSpans {
			return false
		}
		for j, s := range t.Spans {
			if s.Trace != t.Id || s.Start < 0 || s.End < s.Start || s.End > maxTime || len(s.Data) > maxData {
				return false
			}
			for _, earlier := range t.Spans[:j] {
				if s.Start < earlier.Start || s.Start == earlier.Start && s.Id < earlier.Id || s.Id == earlier.Id {
					return false
				}
			}
		}
	}
	return true
}

// wantMerged is the chapter's rule, one span at a time.
func wantMerged(l [][]api.Trace) ([]api.Trace, error) {
	for _, r := range l {
		if !canonical(r) {
			return nil, api.ErrArg
		}
	}
	traces := map[uint64]map[uint64]api.Span{}
	for _, t := range slices.Concat(l...) {
		if traces[t.Id] == nil {
			traces[t.Id] = map[uint64]api.Span{}
		}
		for _, s := range t.Spans {
			if old, ok := traces[t.Id][s.Id]; !ok || counts(s, old) {
				traces[t.Id][s.Id] = s
			}
		}
	}
	var out []api.Trace
	for id, spans := range traces {
		if len(spans) > maxSpans {
			return nil, api.ErrLarge
		}
		x := api.Trace{Id: id}
		for _, s := range spans {
			at := 0
			for at < len(x.Spans) && (x.Spans[at].Start < s.Start || x.Spans[at].Start == s.Start && x.Spans[at].Id < s.Id) {
				at++
			}
			x.Spans = slices.Insert(x.Spans, at, s)
		}
		out = append(out, x)
	}
	slices.SortFunc(out, func(a, b api.Trace) int {
		if a.Id < b.Id {
			return -1
		}
		return 1
	})
	return out, nil
}

// expectMerged holds a call against the rule, and tells what it told.
func expectMerged(t testing.TB, l ...[]api.Trace) []api.Trace {
	t.Helper()
	got, err := kway.Merge(l)
	want, wantErr := wantMerged(l)
	if err != wantErr || !sameTraces(got, want) {
		t.Fatalf("Merge(%v): %v, %v; want %v, %v", l, got, err, want, wantErr)
	}
	if err == nil && !canonical(got) {
		t.Fatalf("Merge(%v): %v isn't canonical", l, got)
	}
	return got
}

func expectError(t testing.TB, want api.Code, l ...[]api.Trace) {
	t.Helper()
	got, err := kway.Merge(l)
	if err != error(want) || got != nil {
		t.Fatalf("Merge(%v): %v, %v; want none, %v", l, got, err, want)
	}
}

// expectTraces holds a call against what is written out.
func expectTraces(t testing.TB, want []api.Trace, l ...[]api.Trace) {
	t.Helper()
	got, err := kway.Merge(l)
	if err != nil || !sameTraces(got, want) {
		t.Fatalf("Merge(%v): %v, %v; want %v", l, got, err, want)
	}
}

// anyTraces are canonical traces of few Ids and times, so that rows of them often
// have traces, and spans of one Id, in common.
func anyTraces(r *rand.Rand, traces, spans int) []api.Trace {
	ids := []uint64{0, 1, 2, 3, 1 << 63, math.MaxUint64}
	times := []int64{0, 1, 2, 5, maxTime}
	texts := []string{"", "\x00", "a", "ab", "b", "\xff", "a\x00", strings.Repeat("z", maxData)}
	var out []api.Trace
	for _, id := range ids {
		if r.Intn(len(ids)) >= traces {
			continue
		}
		x := api.Trace{Id: id}
		for _, start := range times {
			for _, its := range ids {
				end := times[r.Intn(len(times))]
				has := slices.ContainsFunc(x.Spans, func(s api.Span) bool { return s.Id == its })
				if end >= start && !has && len(x.Spans) < spans && r.Intn(4) == 0 {
					x.Spans = append(x.Spans, sp(id, its, start, end, texts[r.Intn(len(texts))]))
				}
			}
		}
		if len(x.Spans) > 0 {
			out = append(out, x)
		}
	}
	return out
}

func anyRowsOfTraces(r *rand.Rand, most int) [][]api.Trace {
	l := make([][]api.Trace, r.Intn(most+1))
	for i := range l {
		l[i] = anyTraces(r, r.Intn(7), 1+r.Intn(6))
	}
	return l
}

func TestMergeOfTheExample(t *testing.T) { // P10.2
	a, b, c := sp(7, 1, 3, 4, "a"), sp(7, 2, 0, 9, "b"), sp(7, 1, 2, 9, "c")
	expectTraces(t, row(tr(7, b, c)), row(tr(7, a)), row(tr(7, b, c)))
	expectTraces(t, row(tr(7, b, a)), row(tr(7, a)), row(tr(7, b)))
	expectTraces(t, row(tr(7, b, a)), row(tr(7, b, a)), row(tr(7, a)))
}

func TestMergeOfNone(t *testing.T) { // P10.2
	expectTraces(t, nil)
	for _, l := range [][][]api.Trace{nil, {}, {nil}, {{}}, {nil, {}, nil}, make([][]api.Trace, 1000)} {
		expectTraces(t, nil, l...)
	}
}

func TestMergeOfOneRow(t *testing.T) { // P10.2
	l := row(run(0, 0, 1), run(3, 7, maxSpans), run(1<<63, 1<<63, 2), run(math.MaxUint64, 0, 1))
	expectTraces(t, l, l)
	expectTraces(t, l, nil, l, row())
	expectTraces(t, l, l, l, l)
}

func TestMergeOfTracesApart(t *testing.T) { // P10.2
	a, b, c, d := run(0, 1, 2), run(4, 1, 1), run(1<<63, 1, 3), run(math.MaxUint64, 1, 1)
	want := row(a, b, c, d)
	expectTraces(t, want, row(a), row(b), row(c), row(d))
	expectTraces(t, want, row(d), row(c), row(b), row(a))
	expectTraces(t, want, row(b, d), nil, row(a, c))
	expectTraces(t, want, row(a, d), row(b, c))
	// Spans of one Id in other traces are other spans.
	x, y := tr(1, sp(1, 5, 9, 9, "x")), tr(2, sp(2, 5, 0, 0, "y"))
	expectTraces(t, row(x, y), row(x), row(y))
	expectTraces(t, row(x, y), row(y), row(x))
}

func TestMergeTellsTheLeastOfOneId(t *testing.T) { // P10.2
	// Each is less than those behind it.
	rising := []api.Span{
		sp(5, 5, 0, 9, "x"), sp(5, 5, 0, maxTime, ""), sp(5, 5, 1, 1, "z"), sp(5, 5, 1, 2, ""), sp(5, 5, 1, 2, "\x00"),
		sp(5, 5, 1, 2, "a"), sp(5, 5, 1, 2, "a\x00"), sp(5, 5, 1, 2, "aa"), sp(5, 5, 1, 2, "b"), sp(5, 5, 1, 2, "\xff"),
		sp(5, 5, 1, 3, ""), sp(5, 5, 7, 7, ""), sp(5, 5, maxTime, maxTime, ""),
	}
	before, behind := sp(5, 1, 0, 0, ""), sp(5, 9, maxTime, maxTime, "")
	for i, least := range rising {
		want := row(tr(5, before, least, behind))
		for _, other := range rising[i:] {
			expectTraces(t, want, row(tr(5, before, least)), row(tr(5, other, behind)))
			expectTraces(t, want, row(tr(5, before, other, behind)), row(tr(5, least)))
			expectTraces(t, want, row(tr(5, other)), row(tr(5, other)), row(tr(5, before, least)), row(tr(5, other, behind)))
			expectTraces(t, want, row(tr(5, other)), row(tr(5, least, behind)), row(tr(5, before, other)))
		}
	}
}

func TestMergePutsSpansInOrder(t *testing.T) { // P10.2
	l := []api.Span{sp(3, 9, 0, 7, ""), sp(3, 2, 4, 4, ""), sp(3, 4, 4, 5, ""), sp(3, 1<<63, 4, 4, ""), sp(3, 1, 5, 6, ""), sp(3, 3, 8, 8, "")}
	want := row(tr(3, l...))
	for cut := range 1 << len(l) {
		var a, b []api.Span
		for i, s := range l {
			if cut>>i&1 == 0 {
				a = append(a, s)
			} else {
				b = append(b, s)
			}
		}
		if len(a) > 0 && len(b) > 0 {
			expectTraces(t, want, row(tr(3, a...)), row(tr(3, b...)))
		}
	}
	var rows [][]api.Trace
	for _, s := range l {
		rows = append(rows, row(tr(3, s)))
	}
	expectTraces(t, want, rows...)
	slices.Reverse(rows)
	expectTraces(t, want, rows...)
}

// wrongRows are rows that aren't canonical, each for one reason.
func wrongRows() map[string][]api.Trace {
	one := run(5, 1, 1)
	with := func(alter func(s *api.Span)) []api.Trace {
		x := run(5, 1, 3)
		alter(&x.Spans[1])
		return row(x)
	}
	return map[string][]api.Trace{
		"traces fall":               row(run(6, 1, 1), one),
		"one trace twice":           row(one, one),
		"one trace twice, apart":    row(one, run(6, 1, 1), one),
		"a trace without spans":     row(tr(5)),
		"among others":              row(run(1, 1, 1), tr(5), run(6, 1, 1)),
		"more than 100 spans":       row(run(5, 1, maxSpans+1)),
		"a span of another trace":   with(func(s *api.Span) { s.Trace = 6 }),
		"a Start below 0":           with(func(s *api.Span) { s.Start = -1 }),
		"an End ahead of its Start": with(func(s *api.Span) { s.End = s.Start - 1 }),
		"an End above MaxTime":      with(func(s *api.Span) { s.End = maxTime + 1 }),
		"65 bytes of Data":          with(func(s *api.Span) { s.Data = make([]byte, maxData+1) }),
		"Starts fall":               with(func(s *api.Span) { s.Start = 4 }),
		"Ids fall":                  with(func(s *api.Span) { s.Id = 0 }),
		"one span twice":            with(func(s *api.Span) { s.Id = 1 }),
		"one Id twice":              row(tr(5, sp(5, 1, 0, 1, ""), sp(5, 2, 1, 1, ""), sp(5, 1, 2, 2, ""))),
	}
}

func TestMergeOfRowsThatAreNotCanonical(t *testing.T) { // P10.2
	good := row(run(1, 1, 2), run(5, 20, 3), run(9, 1, 1))
	for name, wrong := range wrongRows() {
		t.Run(name, func(t *testing.T) {
			expectError(t, api.ErrArg, wrong)
			expectError(t, api.ErrArg, wrong, wrong)
			expectError(t, api.ErrArg, wrong, good)
			expectError(t, api.ErrArg, good, wrong)
			expectError(t, api.ErrArg, good, nil, wrong, good)
			expectError(t, api.ErrArg, good, good, good, row(), wrong)
		})
	}
}

func TestMergeOfTooManySpans(t *testing.T) { // P10.2
	for n := 1; n <= maxSpans; n++ {
		// 100 of the two together, and one more.
		a, b := run(4, 0, n), run(4, uint64(n), maxSpans-n)
		more := run(4, uint64(n), maxSpans-n+1)
		if n < maxSpans {
			expectTraces(t, row(run(4, 0, maxSpans)), row(a), row(b))
			expectTraces(t, row(run(4, 0, maxSpans)), row(b), row(a))
		}
		expectError(t, api.ErrLarge, row(a), row(more))
		expectError(t, api.ErrLarge, row(more), row(a))
	}
	full, other := run(4, 0, maxSpans), run(4, maxSpans, maxSpans)
	// Those that they have in common are there once.
	expectTraces(t, row(full), row(full), row(full), row(full))
	expectTraces(t, row(full), row(run(4, 0, 60)), row(run(4, 40, 60)))
	expectTraces(t, row(full, run(5, 0, maxSpans)), row(full), row(run(5, 0, maxSpans)))
	expectError(t, api.ErrLarge, row(full), row(other))
	expectError(t, api.ErrLarge, row(run(4, 0, 60)), row(run(4, 40, 61)))
	// Whichever trace, and row, it is.
	expectError(t, api.ErrLarge, row(full), row(run(4, maxSpans, 1), run(5, 0, 1)))
	expectError(t, api.ErrLarge, row(run(3, 0, 1), full), row(run(4, maxSpans, 1)))
	expectError(t, api.ErrLarge, row(run(3, 0, 1)), row(full, run(9, 0, 1)), nil, row(run(2, 0, 1), run(4, maxSpans, 1)), row(run(9, 7, 1)))
}

func TestMergeOfOneTraceInManyRows(t *testing.T) { // P10.2
	var rows [][]api.Trace
	for i := range maxSpans {
		rows = append(rows, row(run(4, uint64(maxSpans-1-i), 1)))
	}
	want := row(run(4, 0, maxSpans))
	expectTraces(t, want, rows...)
	for range 20 {
		rows = append(rows, rows[:maxSpans]...)
	}
	expectTraces(t, want, rows...)
	expectError(t, api.ErrLarge, append(rows, row(run(4, maxSpans, 1)))...)
	expectError(t, api.ErrLarge, slices.Insert(rows, 0, row(run(4, maxSpans, 1)))...)
}

func TestMergeTellsErrArgFirst(t *testing.T) { // P10.2, R1
	full, one := row(run(4, 0, maxSpans)), row(run(4, maxSpans, 1))
	for name, wrong := range wrongRows() {
		t.Run(name, func(t *testing.T) {
			expectError(t, api.ErrArg, wrong, full, one)
			expectError(t, api.ErrArg, full, wrong, one)
			expectError(t, api.ErrArg, full, one, wrong)
		})
	}
	// 101 spans in one row: that one isn't canonical.
	expectError(t, api.ErrArg, row(run(4, 0, maxSpans+1)), full)
}

func TestMergeOfAnyRows(t *testing.T) { // P10.2
	r := rand.New(rand.NewSource(107))
	common := 0
	for range 5000 {
		l := anyRowsOfTraces(r, 6)
		n := 0
		for _, x := range slices.Concat(l...) {
			n += len(x.Spans)
		}
		for _, x := range expectMerged(t, l...) {
			n -= len(x.Spans)
		}
		if n > 0 {
			common++
		}
	}
	if common < 1000 {
		t.Errorf("%d of 5000 have spans in common: the test's rows say little", common)
	}
}

func TestMergeOfAnyRowsOfWhichOneThingIsAltered(t *testing.T) { // P10.2
	r := rand.New(rand.NewSource(108))
	told := map[error]int{}
	for range 5000 {
		l := anyRowsOfTraces(r, 4)
		var traces []*api.Trace
		for i := range l {
			for j := range l[i] {
				traces = append(traces, &l[i][j])
			}
		}
		if len(traces) == 0 {
			continue
		}
		x := traces[r.Intn(len(traces))]
		i, j := r.Intn(len(x.Spans)), r.Intn(len(x.Spans))
		switch r.Intn(6) {
		case 0:
			x.Spans[i], x.Spans[j] = x.Spans[j], x.Spans[i]
		case 1:
			x.Spans[i].Id = x.Spans[j].Id
		case 2:
			*x = run(x.Id, 1<<20, maxSpans-r.Intn(4))
		case 3:
			*x = *traces[r.Intn(len(traces))]
		case 4:
			x.Spans[i].Start += int64(r.Intn(3)) - 1
		case 5:
			x.Spans = x.Spans[:i]
		}
		expectMerged(t, l...)
		_, err := wantMerged(l)
		told[err]++
	}
	for _, err := range []error{nil, api.ErrArg, api.ErrLarge} {
		if told[err] < 50 {
			t.Errorf("%v is told %d times: the test's rows say little", err, told[err])
		}
	}
}

func TestMergeOfMany(t *testing.T) { // P10.2
	var rows [][]api.Trace
	for i := range 8 {
		var l []api.Trace
		for j := range 5000 {
			l = append(l, run(uint64(j*(i+1)), uint64(i), 3))
		}
		rows = append(rows, l)
	}
	if got := expectMerged(t, rows...); len(got) < 10000 || len(got) > 40000 {
		t.Errorf("%d traces: the test's rows say little", len(got))
	}
	expectError(t, api.ErrLarge, append(rows, row(run(4999*8, 1<<20, maxSpans)))...)
	expectError(t, api.ErrArg, append(rows, row(run(4999*8, 1<<20, maxSpans+1)))...)
}

func TestMergeInParts(t *testing.T) { // P10.4
	r := rand.New(rand.NewSource(109))
	for range 3000 {
		l := anyRowsOfTraces(r, 8)
		want := expectMerged(t, l...)
		got := inParts(r, l, func(l [][]api.Trace) []api.Trace {
			x, err := kway.Merge(l)
			if err != nil {
				t.Fatal(err)
			}
			return x
		})
		if !sameTraces(got, want) {
			t.Fatalf("of %v: %v in parts; want %v", l, got, want)
		}
	}
}

func TestMergeHasAllThatAnyRowHas(t *testing.T) { // P10.4
	type key struct{ trace, id uint64 }
	r := rand.New(rand.NewSource(110))
	for range 2000 {
		l := anyRowsOfTraces(r, 6)
		has := map[key]int{}
		for _, x := range slices.Concat(l...) {
			for _, s := range x.Spans {
				has[key{s.Trace, s.Id}] = 0
			}
		}
		got, err := kway.Merge(l)
		if err != nil {
			t.Fatal(err)
		}
		for _, x := range got {
			for _, s := range x.Spans {
				has[key{s.Trace, s.Id}]++
			}
		}
		for k, n := range has {
			if n != 1 {
				t.Fatalf("Merge(%v) tells %v %d times: %v", l, k, n, got)
			}
		}
	}
}

// samples are rows whose lists and Data have room behind them, that is the
// caller's.
func samples() [][]api.Trace {
	roomy := func(l ...api.Trace) []api.Trace {
		for i := range l {
			spans := append(make([]api.Span, 0, 9), l[i].Spans...)
			for j := range spans {
				spans[j].Data = append(make([]byte, 0, 70), spans[j].Data...)
			}
			l[i].Spans = spans
		}
		return append(make([]api.Trace, 0, 9), l...)
	}
	return append(make([][]api.Trace, 0, 9),
		roomy(tr(1, sp(1, 2, 3, 4, "ab"), sp(1, 1, 5, 6, "c")), tr(4, sp(4, 1, 0, 0, "alone"))),
		roomy(tr(1, sp(1, 2, 3, 4, "aa"), sp(1, 3, 4, 4, "dd"), sp(1, 1, 5, 7, "e")), tr(2, sp(2, 1, 1, 1, ""), sp(2, 2, 2, 2, "f"))),
		roomy(),
		roomy(tr(2, sp(2, 1, 1, 1, ""), sp(2, 3, 3, 3, "g")), tr(9, sp(9, 1, 0, 0, "h"))),
	)
}

// whole is all of rows, with the room behind what they have.
func whole(l [][]api.Trace) [][]api.Trace {
	out := slices.Clone(l[:cap(l)])
	for i := range out {
		out[i] = slices.Clone(out[i][:cap(out[i])])
		for j := range out[i] {
			spans := slices.Clone(out[i][j].Spans[:cap(out[i][j].Spans)])
			for k := range spans {
				spans[k].Data = bytes.Clone(spans[k].Data[:cap(spans[k].Data)])
			}
			out[i][j].Spans = spans
		}
	}
	return out
}

func overwrite(l []api.Trace) {
	for i := range l {
		spans := l[i].Spans[:cap(l[i].Spans)]
		for j := range spans {
			data := spans[j].Data[:cap(spans[j].Data)]
			for k := range data {
				data[k] = 99
			}
		}
		clear(spans)
	}
	clear(l[:cap(l)])
}

func TestMergeChangesNothing(t *testing.T) { // P10.3
	full, one := row(run(4, 0, maxSpans)), row(run(4, maxSpans, 1))
	for i, l := range [][][]api.Trace{
		samples(), samples()[:1], {full, one}, {one, row(run(5, 1, 1), run(3, 1, 1)), full},
	} {
		before, lens := whole(l), cloned(l)
		kway.Merge(l)
		if !slices.EqualFunc(whole(l), before, sameTraces) || !slices.EqualFunc(l, lens, sameTraces) {
			t.Errorf("%d: it was changed: %v; was %v", i, l, lens)
		}
	}
}

func TestMergeTellsNewMemory(t *testing.T) { // P10.3
	for n := range len(samples()) + 1 {
		want := expectMerged(t, samples()[:n]...)
		l := samples()[:n]
		got, other := expectMerged(t, l...), expectMerged(t, l...)
		// Neither does it change with what was handed in, or with another answer ..
		for _, its := range l {
			overwrite(its)
		}
		overwrite(other)
		if !sameTraces(got, want) {
			t.Errorf("of %d rows: it is memory of the rows, or of another answer", n)
		}
		// .. nor the other way round.
		l = samples()[:n]
		overwrite(expectMerged(t, l...))
		if !slices.EqualFunc(whole(l), whole(samples()[:n]), sameTraces) {
			t.Errorf("of %d rows: the rows are memory of what was told", n)
		}
	}
}

func TestNoTwoListsOfAnAnswerShareMemory(t *testing.T) { // P10.3
	want := expectMerged(t, samples()...)
	for i := range want {
		got := expectMerged(t, samples()...)
		overwrite(got[i : i+1 : i+1])
		got[i] = want[i]
		if !sameTraces(got, want) {
			t.Errorf("the spans of trace %d are those of another one, too", i)
		}
		for j := range want[i].Spans {
			got := expectMerged(t, samples()...)
			data := got[i].Spans[j].Data
			for k := range data[:cap(data)] {
				data[:cap(data)][k] = 99
			}
			got[i].Spans[j].Data = want[i].Spans[j].Data
			if !sameTraces(got, want) {
				t.Errorf("the Data of span %d of trace %d is that of another one, too", j, i)
			}
		}
	}
	// Rows that share memory among them.
	l := samples()
	twice := expectMerged(t, l[0], l[0], l[0])
	overwrite(l[0])
	if !sameTraces(twice, expectMerged(t, samples()[0])) {
		t.Error("it is memory of the rows")
	}
}

// rowsOf are rows that bytes tell, most of them canonical: a row begins with each
// 255; else one tells a trace's Id, and the next one how many spans it has.
func rowsOf(y []byte) [][]api.Trace {
	l := [][]api.Trace{nil}
	for len(y) >= 2 {
		its := &l[len(l)-1]
		if y[0] == 255 {
			l, y = append(l, nil), y[1:]
			continue
		}
		x := api.Trace{Id: uint64(y[0])}
		if len(*its) > 0 {
			x.Id += (*its)[len(*its)-1].Id + 1
		}
		start := int64(0)
		n := 1 + int(y[1]%120)
		for id := range n {
			start += 1 + int64(y[id%2]>>5)
			x.Spans = append(x.Spans, sp(x.Id, uint64((id*7+int(y[1]))%n), start, start+int64(y[1]), string(y[:y[1]%2])))
		}
		*its, y = append(*its, x), y[2:]
	}
	return l
}

func FuzzMerge(f *testing.F) {
	f.Add([]byte{})
	f.Add([]byte{1, 3, 0, 2, 255, 1, 5, 255, 255, 0, 7, 0, 1, 2, 90})
	f.Add([]byte{4, 100, 255, 4, 99, 3, 3, 255, 9, 120})
	f.Fuzz(func(t *testing.T, y []byte) { expectMerged(t, rowsOf(y)...) })
}

func FuzzSorted(f *testing.F) {
	f.Add([]byte{})
	f.Add([]byte{0, 1, 1, 255, 1, 255, 255, 0, 1})
	f.Fuzz(func(t *testing.T, y []byte) {
		var rows [][]int
		for _, part := range bytes.Split(y, []byte{255}) {
			its := []int{}
			for _, b := range part {
				its = append(its, int(b%16))
			}
			slices.Sort(its)
			rows = append(rows, its)
		}
		expectSorted(t, rows...)
	})
}
