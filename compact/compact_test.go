package compact_test

import (
	"bytes"
	"cmp"
	"encoding/binary"
	"fmt"
	"hash/crc32"
	"maps"
	"math"
	"math/rand"
	"slices"
	"testing"

	"tankard/api"
	"tankard/block"
	"tankard/compact"
	"tankard/page"
	"tankard/read"
	"tankard/roster"
	"tankard/store"
)

const (
	maxTime   = 1 << 40
	maxData   = 64
	maxSpans  = 100
	maxTraces = 64
	maxPage   = 8192
	maxPages  = 200
	maxLevel  = 10
	maxRoom   = 1 << 20

	underWay = 0
	done     = 1
	failed   = 2
)

// small are sizes by which each trace, of the least bytes, has a page of its own.
var small = api.Sizes{Page: 64, Shards: 1, Bits: 64, Hashes: 2}

// wide are sizes by which pages are as large as may be.
var wide = api.Sizes{Page: maxPage, Shards: 16, Bits: 4096, Hashes: 8}

// middle are sizes by which pages have some traces each.
var middle = api.Sizes{Page: 200, Shards: 2, Bits: 8, Hashes: 1}

func sp(trace, id uint64, start, end int64, data string) api.Span {
	s := api.Span{Trace: trace, Id: id, Start: start, End: end}
	if data != "" {
		s.Data = []byte(data)
	}
	return s
}

func tr(id uint64, l ...api.Span) api.Trace { return api.Trace{Id: id, Spans: l} }

func of(l ...api.Trace) []api.Trace { return l }

// row is a trace of n spans, behind the span's Id first, each with so much Data.
func row(id uint64, first, n, data int) api.Trace {
	t := api.Trace{Id: id}
	for i := first; i < first+n; i++ {
		s := sp(id, uint64(i), int64(i/3)+5, int64(i)+7, "")
		for j := range data {
			s.Data = append(s.Data, byte(int(id)+i*5+j))
		}
		t.Spans = append(t.Spans, s)
	}
	return t
}

// rows are n traces of one span each, behind this one, so far from each other.
func rows(first uint64, n, far int) []api.Trace {
	var l []api.Trace
	for i := range n {
		l = append(l, row(first+uint64(i*far), 1, 1, 0))
	}
	return l
}

// input is a block that is merged.
type input struct {
	id    uint64
	level int
	l     []api.Trace
	sizes api.Sizes
}

// job is what a job is made of.
type job struct {
	inputs []input
	id     uint64
	now    int64
	sizes  api.Sizes
}

// plain is a job of two inputs, of two pages and one.
func plain() job {
	return job{[]input{
		{1, 0, of(tr(3, sp(3, 1, 2, 5, "a")), tr(7, sp(7, 1, 4, 9, "b"))), small},
		{2, 1, of(tr(3, sp(3, 2, 1, 6, "c"))), small},
	}, 3, 50, small}
}

// several is a job of so many inputs, of one to three pages each, with traces that
// some of them share.
func several(n int) job {
	j := job{id: 40, now: 900, sizes: small}
	for i := range n {
		x := input{id: uint64(i*5 + 2), level: i % 3, sizes: small}
		for k := range i%3 + 1 {
			x.l = append(x.l, row(uint64(i+k*2), i*2, 2, 3))
		}
		j.inputs = append(j.inputs, x)
	}
	return j
}

// samples are jobs: ordinary ones, and at the bounds.
func samples() []job {
	all := uint64(math.MaxUint64)
	full := string(bytes.Repeat([]byte{255}, maxData))
	l := []job{
		plain(),
		// Of one Id the least one counts, wherever it is, and none twice.
		{[]input{
			{8, 2, of(tr(5, sp(5, 1, 3, 9, "b"), sp(5, 2, 4, 9, ""))), small},
			{4, 2, of(tr(5, sp(5, 1, 3, 9, "a"), sp(5, 2, 4, 9, ""), sp(5, 9, 4, 5, ""))), wide},
			{6, 0, of(tr(5, sp(5, 1, 3, 9, "aa"), sp(5, 2, 3, 50, ""))), middle},
		}, 7, 3, middle},
		// All the same.
		{[]input{{9, 0, rows(1, 3, 1), small}, {7, 0, rows(1, 3, 1), small}, {8, 0, rows(1, 3, 1), small}}, 1, 1, small},
		// The bounds of Ids, levels and times.
		{[]input{
			{all, maxLevel - 1, of(tr(0, sp(0, 0, 0, maxTime, full)), tr(all, sp(all, all, maxTime, maxTime, full))), small},
			{1, 0, of(tr(0, sp(0, all, maxTime, maxTime, ""))), wide},
		}, all - 1, maxTime, wide},
		{[]input{{2, 0, of(tr(0, sp(0, 0, 0, 0, ""))), small}, {3, 0, of(tr(1, sp(1, 0, 0, 0, ""))), small}}, all, 0, small},
		// As many spans as a trace may have, and as many traces as a page may.
		{[]input{
			{1, 3, of(row(5, 0, 60, maxData), row(6, 0, maxSpans, 0)), small},
			{2, 3, of(row(5, 40, 60, maxData), row(6, 0, maxSpans, 0), row(7, 0, maxSpans, 1)), wide},
		}, 9, 7, wide},
		{[]input{{1, 0, rows(0, 40, 2), wide}, {2, 0, rows(1, 40, 2), wide}}, 9, 7, wide},
		// As many pages as a block may have.
		{[]input{{1, 0, rows(0, maxPages/2, 2), small}, {2, 0, rows(1, maxPages/2, 2), wide}}, 9, 7, small},
		{[]input{{1, 0, rows(0, maxPages, 1), small}, {2, 0, rows(0, maxPages, 1), wide}}, 9, 7, small},
	}
	for n := 2; n <= 8; n++ {
		l = append(l, several(n))
	}
	return l
}

func sealed(b []byte) []byte {
	return binary.BigEndian.AppendUint32(bytes.Clone(b), crc32.ChecksumIEEE(b))
}

// markerBytes are a marker's.
func markerBytes(m api.Marker) []byte {
	b := binary.BigEndian.AppendUint64(nil, m.Id)
	b = binary.BigEndian.AppendUint64(b, uint64(m.At))
	return sealed(binary.BigEndian.AppendUint64(b, m.By))
}

// metaBytes are those of any meta, one that may be or not.
func metaBytes(m api.Meta) []byte {
	b := binary.BigEndian.AppendUint64(nil, m.Id)
	b = binary.BigEndian.AppendUint64(b, uint64(m.Start))
	b = binary.BigEndian.AppendUint64(b, uint64(m.End))
	b = append(b, byte(m.Level))
	b = binary.BigEndian.AppendUint16(b, uint16(m.Pages))
	return sealed(binary.BigEndian.AppendUint32(b, uint32(m.Traces)))
}

// name is what chapter 13 says.
func name(id uint64, what string) string { return fmt.Sprintf("b/%016x/%s", id, what) }

func pageName(id uint64, n int) string { return name(id, fmt.Sprintf("p%03d", n)) }

func roomy(t testing.TB, room int) *store.Store {
	t.Helper()
	st, err := store.New(room)
	if err != nil {
		t.Fatal(err)
	}
	return st
}

func put(t testing.TB, st *store.Store, name string, b []byte) {
	t.Helper()
	if err := st.Put(name, b); err != nil {
		t.Fatal(name, err)
	}
}

func drop(t testing.TB, st *store.Store, name string) {
	t.Helper()
	if err := st.Delete(name); err != nil {
		t.Fatal(name, err)
	}
}

// lay puts a job's inputs in a store, and tells their metas.
func (x job) lay(t testing.TB, st *store.Store) []api.Meta {
	t.Helper()
	var l []api.Meta
	for _, in := range x.inputs {
		m, err := block.Write(st, in.id, in.level, in.l, in.sizes)
		if err != nil {
			t.Fatal(in.id, err)
		}
		l = append(l, m)
	}
	return l
}

// begin lays a job's inputs in a new store, and makes the job.
func (x job) begin(t testing.TB) (*store.Store, *compact.Job, []api.Meta) {
	t.Helper()
	st := roomy(t, maxRoom)
	l := x.lay(t, st)
	return st, x.made(t, st, l), l
}

// made makes the job, of these metas: by no call of the store.
func (x job) made(t testing.TB, st *store.Store, l []api.Meta) *compact.Job {
	t.Helper()
	was := st.Calls()
	j, err := compact.New(st, l, x.id, x.now, x.sizes)
	if err != nil || j == nil {
		t.Fatalf("New: %v, %v", j, err)
	}
	if n := st.Calls() - was; n != 0 {
		t.Errorf("New: %d calls; want none", n)
	}
	expect(t, j, underWay, api.Meta{})
	return j
}

// less is the order of chapter 4 in which of two of one Id the least one counts.
func less(a, b api.Span) bool {
	c := cmp.Or(cmp.Compare(a.Start, b.Start), cmp.Compare(a.End, b.End), bytes.Compare(a.Data, b.Data))
	return c < 0
}

// together are the traces of all inputs, by the chapters' rules worked out plainly.
func (x job) together() []api.Trace {
	least := map[uint64]map[uint64]api.Span{}
	for _, in := range x.inputs {
		for _, t := range in.l {
			for _, s := range t.Spans {
				if least[t.Id] == nil {
					least[t.Id] = map[uint64]api.Span{}
				}
				if old, ok := least[t.Id][s.Id]; !ok || less(s, old) {
					least[t.Id][s.Id] = s
				}
			}
		}
	}
	var l []api.Trace
	for _, id := range slices.Sorted(maps.Keys(least)) {
		spans := slices.Collect(maps.Values(least[id]))
		slices.SortFunc(spans, func(a, b api.Span) int {
			return cmp.Or(cmp.Compare(a.Start, b.Start), cmp.Compare(a.Id, b.Id))
		})
		l = append(l, tr(id, spans...))
	}
	return l
}

// level is that of the output.
func (x job) level() int {
	n := 0
	for _, in := range x.inputs {
		n = max(n, in.level+1)
	}
	return n
}

// does is what a step does: so many calls, by which this is put, if it has a name.
type does struct {
	calls int
	name  string
	b     []byte
}

// steps are what all steps of a job do, behind which of them the output is there,
// and its meta.
func (x job) steps(t testing.TB, inputs []api.Meta) ([]does, int, api.Meta) {
	t.Helper()
	var l []does
	for _, m := range inputs {
		l = append(l, does{calls: 1 + m.Pages})
	}
	traces := x.together()
	objects, m, err := block.Make(x.id, x.level(), traces, x.sizes)
	if err != nil {
		t.Fatal(err)
	}
	for _, o := range objects {
		l = append(l, does{1, o.Name, o.B})
	}
	there := len(l)
	for _, in := range x.inputs {
		l = append(l, does{1, name(in.id, "x"), markerBytes(api.Marker{Id: in.id, At: x.now, By: x.id})})
	}
	if want := metaOf(x.id, x.level(), traces, len(objects)-3); m != want {
		t.Fatalf("%v; want %v", m, want)
	}
	return l, there, m
}

// metaOf is what is told of a block.
func metaOf(id uint64, level int, l []api.Trace, pages int) api.Meta {
	m := api.Meta{Id: id, Level: level, Start: maxTime, Pages: pages, Traces: len(l)}
	for _, t := range l {
		for _, s := range t.Spans {
			m.Start, m.End = min(m.Start, s.Start), max(m.End, s.End)
		}
	}
	return m
}

// had are all objects of a store: calls that go well.
func had(t testing.TB, st *store.Store) map[string]string {
	t.Helper()
	st.Fail(-1)
	names, err := st.List("")
	if err != nil {
		t.Fatal(err)
	}
	l := map[string]string{}
	for _, name := range names {
		b, err := st.Get(name)
		if err != nil {
			t.Fatal(err)
		}
		l[name] = string(b)
	}
	return l
}

// expectObjects expects that a store has just these.
func expectObjects(t testing.TB, st *store.Store, want map[string]string) {
	t.Helper()
	is := had(t, st)
	for name, b := range want {
		if x, ok := is[name]; !ok || x != b {
			t.Fatalf("%s: %x, %t; want %x", name, x, ok, b)
		}
	}
	for name := range is {
		if _, ok := want[name]; !ok {
			t.Fatalf("%s is there", name)
		}
	}
}

// expect holds what a job tells of itself.
func expect(t testing.TB, j *compact.Job, state int, output api.Meta) {
	t.Helper()
	if n := j.State(); n != state {
		t.Fatalf("State: %d; want %d", n, state)
	}
	if m := j.Output(); m != output {
		t.Fatalf("Output: %v; want %v", m, output)
	}
}

// expectStep does a step that goes well, by so many calls of the store.
func expectStep(t testing.TB, j *compact.Job, st *store.Store, calls int, want bool) {
	t.Helper()
	was := st.Calls()
	if over, err := j.Step(); over != want || err != nil {
		t.Fatalf("Step: %t, %v; want %t", over, err, want)
	}
	if n := st.Calls() - was; n != calls {
		t.Fatalf("Step: %d calls; want %d", n, calls)
	}
}

// expectSteps does the first ones of these, of a job of which none was done: each
// does that, and nothing else.
func expectSteps(t testing.TB, j *compact.Job, st *store.Store, l []does, there int, m api.Meta, n int) {
	t.Helper()
	objects := had(t, st)
	for i, x := range l[:n] {
		over := i == len(l)-1
		expectStep(t, j, st, x.calls, over)
		if x.name != "" {
			objects[x.name] = string(x.b)
		}
		expectObjects(t, st, objects)
		state, output := underWay, api.Meta{}
		if over {
			state = done
		}
		if i >= there-1 {
			output = m
		}
		expect(t, j, state, output)
	}
}

// expectFails expects an error of the next step, by so many calls of the store, and
// that nothing is put by it, nor behind it.
func expectFails(t testing.TB, j *compact.Job, st *store.Store, calls int, want error) {
	t.Helper()
	was, output := st.Calls(), j.Output()
	if over, err := j.Step(); over || err != want {
		t.Fatalf("Step: %t, %v; want %v", over, err, want)
	}
	if n := st.Calls() - was; n != calls {
		t.Fatalf("Step: %d calls; want %d", n, calls)
	}
	expectOver(t, j, st, failed, output)
}

// expectOver expects that a job does nothing any more.
func expectOver(t testing.TB, j *compact.Job, st *store.Store, state int, output api.Meta) {
	t.Helper()
	objects := had(t, st)
	was := st.Calls()
	for range 3 {
		expect(t, j, state, output)
		if over, err := j.Step(); over || err != error(api.ErrState) {
			t.Fatalf("Step: %t, %v; want %v", over, err, api.ErrState)
		}
		expect(t, j, state, output)
		if err := j.Run(); err != error(api.ErrState) {
			t.Fatalf("Run: %v; want %v", err, api.ErrState)
		}
	}
	if n := st.Calls() - was; n != 0 {
		t.Fatalf("%d calls; want none", n)
	}
	expect(t, j, state, output)
	expectObjects(t, st, objects)
}

func sameSpans(a, b []api.Span) bool {
	return slices.EqualFunc(a, b, func(a, b api.Span) bool {
		return a.Trace == b.Trace && a.Id == b.Id && a.Start == b.Start && a.End == b.End && bytes.Equal(a.Data, b.Data)
	})
}

func sameTraces(a, b []api.Trace) bool {
	return slices.EqualFunc(a, b, func(a, b api.Trace) bool { return a.Id == b.Id && sameSpans(a.Spans, b.Spans) })
}

// expectTogether expects that the output, read as a whole and trace by trace, has
// what all inputs have together, and that just it is live of them all.
func (x job) expectTogether(t testing.TB, st *store.Store, m api.Meta) {
	t.Helper()
	want := x.together()
	if l, err := read.All(st, x.id); err != nil || !sameTraces(l, want) {
		t.Fatalf("All: %v, %v; want %v", l, err, want)
	}
	for _, one := range want {
		if l, err := read.Find(st, x.id, one.Id); err != nil || !sameSpans(l, one.Spans) {
			t.Fatalf("Find: %v, %v; want %v", l, err, one)
		}
	}
	var markers []api.Marker
	for _, in := range x.inputs {
		markers = append(markers, api.Marker{Id: in.id, At: x.now, By: x.id})
	}
	slices.SortFunc(markers, func(a, b api.Marker) int { return cmp.Compare(a.Id, b.Id) })
	r, err := roster.List(st)
	if err != nil || !slices.Equal(r.Live, []api.Meta{m}) || !slices.Equal(r.Marked, markers) {
		t.Fatalf("List: %v, %v; want %v, %v", r, err, m, markers)
	}
}

func TestExample(t *testing.T) { // P20.2, the chapter's example
	x := plain()
	st, j, _ := x.begin(t)
	if err := j.Run(); err != nil {
		t.Fatal(err)
	}
	live, marked, err := roster.Names(st)
	if err != nil || !slices.Equal(live, []uint64{3}) || !slices.Equal(marked, []uint64{1, 2}) {
		t.Errorf("%v, %v, %v", live, marked, err)
	}
	m := api.Meta{Id: 3, Level: 2, Start: 1, End: 9, Pages: 2, Traces: 2}
	expect(t, j, done, m)
	x.expectTogether(t, st, m)
}

// numbered is a meta that may be.
func numbered(id uint64) api.Meta {
	return api.Meta{Id: id, Level: int(id % 10), Start: int64(id % 7), End: int64(id%7 + id%90), Pages: 2, Traces: 3}
}

func metas(ids ...uint64) []api.Meta {
	var l []api.Meta
	for _, id := range ids {
		l = append(l, numbered(id))
	}
	return l
}

// wrongMetas may not be, each by one thing, of that Id.
func wrongMetas(id uint64) []api.Meta {
	l := make([]api.Meta, 12)
	for i := range l {
		l[i] = api.Meta{Id: id, Level: 3, Start: 4, End: 9, Pages: 2, Traces: 3}
	}
	l[0].Id = 0
	l[1].Level = -1
	l[2].Level = maxLevel + 1
	l[3].Start = -1
	l[4].Start = 10
	l[5].End = maxTime + 1
	l[6].Pages, l[6].Traces = 0, 0
	l[7].Pages, l[7].Traces = maxPages+1, maxPages+1
	l[8].Traces = 1
	l[9].Traces = 2*maxTraces + 1
	l[10].Level = math.MaxInt
	l[11].Level = math.MinInt
	return l
}

// expectNoJob expects ErrArg, by no call of the store.
func expectNoJob(t testing.TB, st *store.Store, l []api.Meta, id uint64, now int64, s api.Sizes) {
	t.Helper()
	was := 0
	if st != nil {
		was = st.Calls()
	}
	if j, err := compact.New(st, l, id, now, s); j != nil || err != error(api.ErrArg) {
		t.Errorf("New(%v, %d, %d, %v): %v, %v; want %v", l, id, now, s, j, err, api.ErrArg)
	}
	if st != nil && st.Calls() != was {
		t.Errorf("New: calls")
	}
}

func TestNewOfWhatMayNotBe(t *testing.T) { // P20.1
	st := roomy(t, maxRoom)
	two := metas(3, 5)
	expectNoJob(t, nil, two, 9, 50, small)
	for _, l := range [][]api.Meta{nil, {}, metas(3), metas(1, 2, 3, 4, 5, 6, 7, 8, 10), metas(1, 2, 3, 4, 5, 6, 7, 8, 10, 11, 12, 13, 14, 15, 16, 17)} {
		expectNoJob(t, st, l, 9, 50, small)
	}
	expectNoJob(t, st, make([]api.Meta, 100000), 9, 50, small)
	expectNoJob(t, st, two, 0, 50, small)
	for _, now := range []int64{-1, maxTime + 1, math.MinInt64, math.MaxInt64} {
		expectNoJob(t, st, two, 9, now, small)
	}
	for _, l := range [][]api.Meta{metas(9, 5), metas(5, 9), metas(1, 2, 3, 4, 9, 6, 7, 8), metas(1, 2, 3, 4, 5, 6, 7, 9)} {
		expectNoJob(t, st, l, 9, 50, small)
	}
	for _, l := range [][]api.Meta{metas(3, 3), metas(3, 5, 3), metas(5, 3, 3), metas(1, 2, 3, 4, 5, 6, 7, 1), metas(1, 2, 3, 4, 4, 6, 7, 8)} {
		expectNoJob(t, st, l, 9, 50, small)
	}
	// They are told by their Ids alone.
	other := numbered(3)
	other.Level, other.Traces = 0, 9
	expectNoJob(t, st, []api.Meta{numbered(3), other}, 9, 50, small)
	if n := st.Calls(); n != 0 {
		t.Errorf("%d calls", n)
	}
}

func TestNewOfInputsThatMayNotBe(t *testing.T) { // P20.1
	st := roomy(t, maxRoom)
	for n := 2; n <= 8; n++ {
		ids := []uint64{20, 21, 22, 23, 24, 25, 26, 27}[:n]
		for at := range ids {
			for _, m := range wrongMetas(ids[at]) {
				l := metas(ids...)
				l[at] = m
				expectNoJob(t, st, l, 9, 50, small)
			}
			// It may be, but what it merges into is of a level above the last one.
			l := metas(ids...)
			l[at].Level = maxLevel
			expectNoJob(t, st, l, 9, 50, small)
		}
	}
}

func TestNewOfSizesThatMayNotBe(t *testing.T) { // P20.1
	st := roomy(t, maxRoom)
	for _, s := range []api.Sizes{
		{},
		{Page: 63, Shards: 1, Bits: 64, Hashes: 2},
		{Page: maxPage + 1, Shards: 1, Bits: 64, Hashes: 2},
		{Page: -64, Shards: 1, Bits: 64, Hashes: 2},
		{Page: 64, Shards: 0, Bits: 64, Hashes: 2},
		{Page: 64, Shards: 17, Bits: 64, Hashes: 2},
		{Page: 64, Shards: 1, Bits: 0, Hashes: 2},
		{Page: 64, Shards: 1, Bits: 60, Hashes: 2},
		{Page: 64, Shards: 1, Bits: 4104, Hashes: 2},
		{Page: 64, Shards: 1, Bits: 64, Hashes: 0},
		{Page: 64, Shards: 1, Bits: 64, Hashes: 9},
		{Page: math.MaxInt, Shards: math.MinInt, Bits: math.MaxInt, Hashes: math.MinInt},
	} {
		expectNoJob(t, st, metas(3, 5), 9, 50, s)
	}
}

func TestNewOfWhatMayBe(t *testing.T) { // P20.1
	st := roomy(t, maxRoom)
	all := uint64(math.MaxUint64)
	highest := metas(3, 5)
	highest[1].Level = maxLevel - 1
	widest := []api.Meta{
		{Id: all, Start: maxTime, End: maxTime, Pages: maxPages, Traces: maxPages * maxTraces},
		{Id: 1, Level: maxLevel - 1, End: maxTime, Pages: 1, Traces: 1},
	}
	for _, l := range [][]api.Meta{
		metas(3, 5), metas(5, 3), metas(1, 2, 3, 4, 5, 6, 7, 8), metas(8, 1, 7, 2, 6, 3, 5, 4), highest, widest,
	} {
		for _, now := range []int64{0, 1, maxTime - 1, maxTime} {
			for _, id := range []uint64{9, all - 1} {
				for _, s := range []api.Sizes{small, wide, middle} {
					job{id: id, now: now, sizes: s}.made(t, st, l)
				}
			}
		}
	}
	// Blocks aren't asked for, nor is there a call that could fail.
	st.Fail(0)
	j := job{id: 9, now: 5, sizes: small}.made(t, st, metas(3, 5))
	expectFails(t, j, st, 1, api.ErrFail)
	j = job{id: 9, now: 5, sizes: small}.made(t, st, metas(3, 5))
	expectFails(t, j, st, 1, api.ErrNone)
}

func TestSteps(t *testing.T) { // P20.1, P20.2, P20.4
	for _, x := range samples() {
		st, j, inputs := x.begin(t)
		l, there, m := x.steps(t, inputs)
		expectSteps(t, j, st, l, there, m, len(l))
		expectOver(t, j, st, done, m)
		x.expectTogether(t, st, m)
	}
}

// TestStepsOfPlain tells them one by one, as the chapter does.
func TestStepsOfPlain(t *testing.T) { // P20.1, P20.2
	st, j, _ := plain().begin(t)
	told := api.Meta{Id: 3, Level: 2, Start: 1, End: 9, Pages: 2, Traces: 2}
	for i, object := range []string{
		"", "",
		"b/0000000000000003/p000", "b/0000000000000003/p001", "b/0000000000000003/i",
		"b/0000000000000003/f", "b/0000000000000003/m",
		"b/0000000000000001/x", "b/0000000000000002/x",
	} {
		was := had(t, st)
		if over, err := j.Step(); over != (i == 8) || err != nil {
			t.Fatal(i, over, err)
		}
		is := had(t, st)
		if _, ok := is[object]; object != "" && !ok {
			t.Errorf("%d: no %s", i, object)
		}
		more := 1
		if object == "" {
			more = 0
		}
		if len(is) != len(was)+more {
			t.Errorf("%d: %d objects", i, len(is))
		}
		if m := j.Output(); i >= 6 && m != told || i < 6 && m != (api.Meta{}) {
			t.Errorf("%d: %v", i, m)
		}
		if n := j.State(); i == 8 && n != 1 || i < 8 && n != 0 {
			t.Errorf("%d: %d", i, n)
		}
	}
}

func TestEachCallThatFails(t *testing.T) { // P20.1, P20.2, P20.4
	for _, x := range []job{plain(), samples()[1], several(4), several(8)} {
		_, _, inputs := x.begin(t)
		l, there, m := x.steps(t, inputs)
		calls := 0
		for i, step := range l {
			for call := range step.calls {
				st, j, _ := x.begin(t)
				expectSteps(t, j, st, l, there, m, i)
				st.Fail(call)
				expectFails(t, j, st, call+1, api.ErrFail)
				x.expectNoneMarkedAhead(t, st)

				st, j, _ = x.begin(t)
				expectRunFails(t, j, st, calls, i >= there, m)
				x.expectNoneMarkedAhead(t, st)
				calls++
			}
		}
	}
}

// expectRunFails runs a job of which so many calls go well.
func expectRunFails(t testing.TB, j *compact.Job, st *store.Store, calls int, put bool, m api.Meta) {
	t.Helper()
	was := st.Calls()
	st.Fail(calls)
	if err := j.Run(); err != error(api.ErrFail) {
		t.Fatalf("Run: %v; want %v", err, api.ErrFail)
	}
	if n := st.Calls() - was; n != calls+1 {
		t.Fatalf("Run: %d calls; want %d", n, calls+1)
	}
	if !put {
		m = api.Meta{}
	}
	expectOver(t, j, st, failed, m)
}

// expectNoneMarkedAhead expects that as long as the output isn't there no input is
// marked, and that what is marked is whole in the output.
func (x job) expectNoneMarkedAhead(t testing.TB, st *store.Store) {
	t.Helper()
	live, marked, err := roster.Names(st)
	if err != nil {
		t.Fatal(err)
	}
	if !slices.Contains(live, x.id) {
		if len(marked) > 0 {
			t.Fatalf("marked: %v; live: %v", marked, live)
		}
		return
	}
	if l, err := read.All(st, x.id); err != nil || !sameTraces(l, x.together()) {
		t.Fatalf("%v, %v", l, err)
	}
}

// fault is something that is wrong with an object, and what is told of it.
type fault struct {
	name string
	make func(t testing.TB, st *store.Store, name string)
	want api.Code
}

// faults are one of each kind.
func faults() []fault {
	as := func(b []byte) func(t testing.TB, st *store.Store, name string) {
		return func(t testing.TB, st *store.Store, name string) { put(t, st, name, b) }
	}
	return []fault{
		{"gone", drop, api.ErrNone},
		{"altered", func(t testing.TB, st *store.Store, name string) {
			if !st.Alter(name, 0, 1) {
				t.Fatal(name)
			}
		}, api.ErrSum},
		{"of no bytes", as(nil), api.ErrForm},
		{"sealed, of no bytes", as(sealed(nil)), api.ErrForm},
		{"of another form", as(sealed([]byte{255, 255, 255, 255, 9})), api.ErrForm},
	}
}

func TestInputsThatCantBeRead(t *testing.T) { // P20.2
	for _, x := range []job{plain(), several(3), several(8)} {
		_, _, inputs := x.begin(t)
		l, there, m := x.steps(t, inputs)
		for i, in := range inputs {
			for of := range 1 + in.Pages {
				object := name(in.Id, "m")
				if of > 0 {
					object = pageName(in.Id, of-1)
				}
				for _, wrong := range faults() {
					st, j, _ := x.begin(t)
					wrong.make(t, st, object)
					expectSteps(t, j, st, l, there, m, i)
					expectFails(t, j, st, of+1, wrong.want)
				}
			}
		}
	}
}

func TestInputsThatAreOthers(t *testing.T) { // P20.2
	x := plain()
	// The meta of another block, in the place of one's.
	st, j, _ := x.begin(t)
	b, err := st.Get(name(1, "m"))
	if err != nil {
		t.Fatal(err)
	}
	put(t, st, name(2, "m"), b)
	expectStep(t, j, st, 3, false)
	expectFails(t, j, st, 1, api.ErrForm)
	// Traces that aren't canonical one behind the other, and fewer than are told.
	for _, traces := range [][]api.Trace{rows(9, 1, 1), nil} {
		st, j, _ := x.begin(t)
		b, err := page.Put(traces)
		if err != nil {
			t.Fatal(err)
		}
		put(t, st, pageName(1, 0), b)
		expectFails(t, j, st, 3, api.ErrForm)
	}
}

func TestEachByteOfInputsAltered(t *testing.T) { // P20.2, P20.4
	x := plain()
	_, _, inputs := x.begin(t)
	l, there, m := x.steps(t, inputs)
	for i, in := range inputs {
		st, _, _ := x.begin(t)
		for object, b := range had(t, st) {
			if object[:len(name(in.Id, ""))] != name(in.Id, "") {
				continue
			}
			for at := range b {
				st, j, _ := x.begin(t)
				if !st.Alter(object, at, byte(1+at)) {
					t.Fatal(object, at)
				}
				// The index and the filter aren't asked for.
				if what := object[len(object)-1]; what == 'i' || what == 'f' {
					expectSteps(t, j, st, l, there, m, len(l))
					continue
				}
				expectSteps(t, j, st, l, there, m, i)
				if over, err := j.Step(); over || err != error(api.ErrSum) {
					t.Fatalf("%s, %d: %t, %v", object, at, over, err)
				}
				expectOver(t, j, st, failed, api.Meta{})
			}
		}
	}
}

func TestWhatEachStepReads(t *testing.T) { // P20.2
	x := several(5)
	_, _, inputs := x.begin(t)
	l, there, m := x.steps(t, inputs)
	for at := 1; at <= len(inputs); at++ {
		// What was read may go, and isn't read again.
		st, j, _ := x.begin(t)
		for i, in := range inputs[:at] {
			expectStep(t, j, st, l[i].calls, false)
			drop(t, st, name(in.Id, "m"))
			drop(t, st, pageName(in.Id, 0))
		}
		for i := at; i < len(l); i++ {
			expectStep(t, j, st, l[i].calls, i == len(l)-1)
		}
		expect(t, j, done, m)
		if all, err := read.All(st, x.id); err != nil || !sameTraces(all, x.together()) {
			t.Errorf("%v, %v", all, err)
		}
		if at == len(inputs) {
			break
		}
		// What wasn't read yet is read in its own step.
		st, j, _ = x.begin(t)
		expectSteps(t, j, st, l, there, m, at)
		drop(t, st, name(inputs[at].Id, "m"))
		expectFails(t, j, st, 1, api.ErrNone)
	}
}

func TestInputsAreReadInTheirOrder(t *testing.T) { // P20.2
	r := rand.New(rand.NewSource(200))
	for range 20 {
		x := several(6)
		r.Shuffle(len(x.inputs), func(a, b int) { x.inputs[a], x.inputs[b] = x.inputs[b], x.inputs[a] })
		st, j, inputs := x.begin(t)
		l, there, m := x.steps(t, inputs)
		expectSteps(t, j, st, l, there, m, len(l))
		// Of two that can't be read the one ahead is told, in its own step.
		st, j, _ = x.begin(t)
		at := r.Intn(5)
		drop(t, st, name(inputs[at].Id, "m"))
		st.Alter(name(inputs[at+1].Id, "m"), 0, 1)
		expectSteps(t, j, st, l, there, m, at)
		expectFails(t, j, st, 1, api.ErrNone)
	}
}

// tooLarge are jobs of which all inputs are read, but can't be merged, or made.
func tooLarge() []job {
	return []job{
		{[]input{{1, 0, of(row(5, 0, maxSpans, 0)), small}, {2, 0, of(row(5, 1, maxSpans, 0)), small}}, 3, 50, wide},
		{[]input{
			{1, 0, of(row(1, 0, 1, 0), row(5, 0, 51, 0)), wide},
			{2, 0, of(row(2, 0, 1, 0)), small},
			{4, 0, of(row(5, 50, 51, 9)), middle},
		}, 3, 50, wide},
		{[]input{{1, 0, rows(0, 101, 2), wide}, {2, 0, rows(1, 100, 2), wide}}, 3, 50, small},
		{[]input{{1, 0, rows(0, maxPages, 2), small}, {2, 0, rows(1, maxPages, 2), small}}, 3, 50, small},
		{[]input{{1, 0, rows(0, maxPages+1, 1), wide}, {2, 0, rows(7, 1, 1), wide}}, 3, 50, small},
	}
}

func TestMergesThatAreTooMuch(t *testing.T) { // P20.2
	for _, x := range tooLarge() {
		st, j, inputs := x.begin(t)
		for _, in := range inputs {
			expectStep(t, j, st, 1+in.Pages, false)
			expect(t, j, underWay, api.Meta{})
		}
		objects := had(t, st)
		// It is told ahead of the Put, which isn't called.
		st.Fail(0)
		expectFails(t, j, st, 0, api.ErrLarge)
		expectObjects(t, st, objects)

		st, j, _ = x.begin(t)
		if err := j.Run(); err != error(api.ErrLarge) {
			t.Errorf("Run: %v", err)
		}
		expectOver(t, j, st, failed, api.Meta{})
		expectObjects(t, st, objects)
	}
}

func TestMergesAreOfTheStepOfTheFirstPut(t *testing.T) { // P20.2
	// Behind all reading it is under way, whatever comes of merging.
	for _, x := range append(tooLarge(), plain(), several(8)) {
		st, j, inputs := x.begin(t)
		for _, in := range inputs {
			expectStep(t, j, st, 1+in.Pages, false)
		}
		expect(t, j, underWay, api.Meta{})
		st.Fail(0)
		over, err := j.Step()
		if over || err == nil {
			t.Errorf("%t, %v", over, err)
		}
		expect(t, j, failed, api.Meta{})
	}
}

func TestNoRoom(t *testing.T) { // P20.2, P20.4
	for _, x := range []job{plain(), several(8)} {
		first, _, inputs := x.begin(t)
		l, there, m := x.steps(t, inputs)
		room := first.Used()
		for i, step := range l {
			if step.name == "" {
				continue
			}
			room += len(step.b)
			st := roomy(t, room-1)
			x.lay(t, st)
			j := x.made(t, st, inputs)
			expectSteps(t, j, st, l, there, m, i)
			expectFails(t, j, st, 1, api.ErrFull)
			x.expectNoneMarkedAhead(t, st)
		}
		st := roomy(t, room)
		x.lay(t, st)
		expectSteps(t, x.made(t, st, inputs), st, l, there, m, len(l))
		if st.Used() != room {
			t.Errorf("%d; want %d", st.Used(), room)
		}
	}
}

func TestWhatThereIsIsPutAnew(t *testing.T) { // P20.2
	// Of a job that failed, or of another block of that Id.
	x := plain()
	st, _, inputs := x.begin(t)
	l, there, m := x.steps(t, inputs)
	put(t, st, pageName(3, 0), []byte("a"))
	put(t, st, pageName(3, 7), []byte("b"))
	put(t, st, name(3, "m"), []byte("c"))
	put(t, st, name(1, "x"), []byte("d"))
	j := x.made(t, st, inputs)
	expectSteps(t, j, st, l, there, m, len(l))
	// And inputs that are marked already are merged again.
	j = x.made(t, st, inputs)
	expectSteps(t, j, st, l, there, m, len(l))
}

func TestAJobAnew(t *testing.T) { // P20.2, P20.4
	// Wherever one fails, another one, of the same Id or not, does all of it.
	x := several(3)
	_, _, inputs := x.begin(t)
	l, _, _ := x.steps(t, inputs)
	for fail := range len(l) + 5 {
		for _, id := range []uint64{x.id, x.id + 1} {
			st, j, _ := x.begin(t)
			st.Fail(fail)
			j.Run()
			again := x
			again.id = id
			l, there, m := again.steps(t, inputs)
			expectSteps(t, again.made(t, st, inputs), st, l, there, m, len(l))
		}
	}
}

func TestTheLevelIsThatOfTheMetas(t *testing.T) { // P20.1, P20.2
	// What is handed in tells it; else blocks are read as they are.
	x := plain()
	for level := range maxLevel {
		st, _, inputs := x.begin(t)
		inputs[0].Level = level
		inputs[1] = api.Meta{Id: 2, Start: 900, End: 950, Pages: 1, Traces: 64}
		j := x.made(t, st, inputs)
		if err := j.Run(); err != nil {
			t.Fatal(err)
		}
		m := api.Meta{Id: 3, Level: level + 1, Start: 1, End: 9, Pages: 2, Traces: 2}
		expect(t, j, done, m)
		if is, err := read.Meta(st, 3); err != nil || is != m {
			t.Errorf("%v, %v; want %v", is, err, m)
		}
	}
}

// TestLevelsOfBlocks has the block's own meta tell of another level, too.
func TestLevelsOfBlocks(t *testing.T) { // P20.2
	x := plain()
	st, j, inputs := x.begin(t)
	other := inputs[0]
	other.Level, other.End = 7, 900
	put(t, st, name(1, "m"), metaBytes(other))
	if err := j.Run(); err != nil {
		t.Fatal(err)
	}
	expect(t, j, done, api.Meta{Id: 3, Level: 2, Start: 1, End: 9, Pages: 2, Traces: 2})
}

func TestRun(t *testing.T) { // P20.2
	for _, x := range samples() {
		st, _, inputs := x.begin(t)
		l, there, m := x.steps(t, inputs)
		objects := had(t, st)
		for _, step := range l {
			if step.name != "" {
				objects[step.name] = string(step.b)
			}
		}
		for _, n := range []int{0, 1, len(inputs), there, len(l) - 1} {
			st, j, _ := x.begin(t)
			for _, step := range l[:n] {
				expectStep(t, j, st, step.calls, false)
			}
			was, calls := st.Calls(), 0
			for _, step := range l[n:] {
				calls += step.calls
			}
			if err := j.Run(); err != nil {
				t.Fatalf("Run: %v", err)
			}
			if is := st.Calls() - was; is != calls {
				t.Errorf("Run: %d calls; want %d", is, calls)
			}
			expectOver(t, j, st, done, m)
			expectObjects(t, st, objects)
		}
	}
}

func TestWhatIsHandedInStays(t *testing.T) { // P20.3
	x := several(5)
	st, _, inputs := x.begin(t)
	l, there, m := x.steps(t, inputs)
	mine := append(slices.Clone(inputs), numbered(99))[:len(inputs)]
	j := x.made(t, st, mine)
	for _, step := range l[:3] {
		expectStep(t, j, st, step.calls, false)
	}
	if !slices.Equal(mine, inputs) || mine[:len(mine)+1][len(mine)] != numbered(99) {
		t.Errorf("%v; was %v", mine, inputs)
	}
	if err := j.Run(); err != nil {
		t.Fatal(err)
	}
	if !slices.Equal(mine, inputs) || mine[:len(mine)+1][len(mine)] != numbered(99) {
		t.Errorf("%v; was %v", mine, inputs)
	}
	// What is done with the list behind New is no matter.
	st, _, _ = x.begin(t)
	j = x.made(t, st, mine)
	clear(mine)
	expectSteps(t, j, st, l, there, m, 4)
	for i := range mine {
		mine[i] = numbered(uint64(i + 70))
	}
	objects := had(t, st)
	if err := j.Run(); err != nil {
		t.Fatal(err)
	}
	expect(t, j, done, m)
	for _, step := range l {
		if step.name != "" {
			objects[step.name] = string(step.b)
		}
	}
	expectObjects(t, st, objects)
}

func TestJobsBesideEachOther(t *testing.T) { // P20.3
	x := several(5)
	st, one, inputs := x.begin(t)
	y := x
	y.id, y.now, y.sizes = 41, 7, wide
	two := y.made(t, st, inputs)
	l, thereOne, m := x.steps(t, inputs)
	k, thereTwo, n := y.steps(t, inputs)
	for i := range max(len(l), len(k)) {
		if i < len(l) {
			expectStep(t, one, st, l[i].calls, i == len(l)-1)
		}
		if i < len(k) {
			expectStep(t, two, st, k[i].calls, i == len(k)-1)
		}
		if is := one.Output(); (is == m) != (i >= thereOne-1) {
			t.Errorf("%d: %v", i, is)
		}
		if is := two.Output(); (is == n) != (i >= thereTwo-1) {
			t.Errorf("%d: %v", i, is)
		}
	}
	for _, id := range []uint64{x.id, y.id} {
		if all, err := read.All(st, id); err != nil || !sameTraces(all, x.together()) {
			t.Errorf("%v, %v", all, err)
		}
	}
}

// TestMergedInParts merges what was merged, too.
func TestMergedInParts(t *testing.T) { // P20.4
	x := several(6)
	st, _, inputs := x.begin(t)
	var made []api.Meta
	for i := range 3 {
		part := job{id: uint64(50 + i), now: int64(i), sizes: middle}
		j := part.made(t, st, inputs[i*2:i*2+2])
		if err := j.Run(); err != nil {
			t.Fatal(err)
		}
		made = append(made, j.Output())
	}
	j := x.made(t, st, made)
	if err := j.Run(); err != nil {
		t.Fatal(err)
	}
	if all, err := read.All(st, x.id); err != nil || !sameTraces(all, x.together()) {
		t.Errorf("%v, %v; want %v", all, err, x.together())
	}
	if m := j.Output(); m.Level != 4 {
		t.Errorf("%v", m)
	}
	live, marked, err := roster.Names(st)
	if err != nil || !slices.Equal(live, []uint64{x.id}) || len(marked) != 9 {
		t.Errorf("%v, %v, %v", live, marked, err)
	}
}

// anyTraces are canonical, with Ids that some share.
func anyTraces(r *rand.Rand) []api.Trace {
	var l []api.Trace
	for id := range uint64(12) {
		if len(l) > 0 && r.Intn(2) == 0 {
			continue
		}
		t := tr(id * 0x1111111111111111)
		for k := range uint64(6) {
			if len(t.Spans) == 0 || r.Intn(3) == 0 {
				start := r.Int63n(3)
				t.Spans = append(t.Spans, sp(t.Id, k, start, start+r.Int63n(3), string([]byte("ab")[:r.Intn(3)])))
			}
		}
		slices.SortFunc(t.Spans, func(a, b api.Span) int {
			return cmp.Or(cmp.Compare(a.Start, b.Start), cmp.Compare(a.Id, b.Id))
		})
		l = append(l, t)
	}
	return l
}

// anyJob may be, and goes well.
func anyJob(r *rand.Rand) job {
	sizes := []api.Sizes{small, wide, middle}
	x := job{id: 60, now: r.Int63n(maxTime), sizes: sizes[r.Intn(3)]}
	for _, id := range r.Perm(59)[:2+r.Intn(7)] {
		x.inputs = append(x.inputs, input{uint64(id) + 1, r.Intn(maxLevel), anyTraces(r), sizes[r.Intn(3)]})
	}
	return x
}

func TestAnyJobs(t *testing.T) { // P20.2, P20.4
	r := rand.New(rand.NewSource(201))
	for range 300 {
		x := anyJob(r)
		st, j, inputs := x.begin(t)
		l, there, m := x.steps(t, inputs)
		expectSteps(t, j, st, l, there, m, len(l))
		x.expectTogether(t, st, m)
	}
}

func TestAnyJobsThatFail(t *testing.T) { // P20.2, P20.4
	r := rand.New(rand.NewSource(202))
	at := map[int]int{}
	for range 1500 {
		x := anyJob(r)
		st, j, inputs := x.begin(t)
		l, there, m := x.steps(t, inputs)
		i := r.Intn(len(l))
		for _, step := range l[:i] {
			expectStep(t, j, st, step.calls, false)
		}
		calls := r.Intn(l[i].calls)
		st.Fail(calls)
		expectFails(t, j, st, calls+1, api.ErrFail)
		x.expectNoneMarkedAhead(t, st)
		if (j.Output() == m) != (i >= there) {
			t.Fatalf("%v", j.Output())
		}
		switch {
		case i < len(inputs):
			at[0]++
		case i < there:
			at[1]++
		default:
			at[2]++
		}
	}
	// Else they would hold little.
	if at[0] < 200 || at[1] < 200 || at[2] < 200 {
		t.Errorf("%v", at)
	}
}

// model is the chapter's rule of a job, in a store of its own: it is told by how
// many steps were done.
type model struct {
	st      *store.Store
	inputs  []api.Meta
	id      uint64
	now     int64
	sizes   api.Sizes
	at      int
	rows    []input
	objects []block.Object
	meta    api.Meta
	state   int
	output  api.Meta
}

// do does the step that is next.
func (m *model) do() error {
	n := len(m.inputs)
	if m.at < n {
		l, err := read.All(m.st, m.inputs[m.at].Id)
		m.rows = append(m.rows, input{level: m.inputs[m.at].Level, l: l})
		return err
	}
	if m.at == n {
		x := job{inputs: m.rows}
		l := x.together()
		for _, t := range l {
			if len(t.Spans) > maxSpans {
				return api.ErrLarge
			}
		}
		var err error
		m.objects, m.meta, err = block.Make(m.id, x.level(), l, m.sizes)
		if err != nil {
			return err
		}
	}
	if i := m.at - n; i < len(m.objects) {
		return m.st.Put(m.objects[i].Name, m.objects[i].B)
	}
	in := m.inputs[m.at-n-len(m.objects)]
	return m.st.Put(name(in.Id, "x"), markerBytes(api.Marker{Id: in.Id, At: m.now, By: m.id}))
}

func (m *model) step() (bool, error) {
	if m.state != underWay {
		return false, api.ErrState
	}
	if err := m.do(); err != nil {
		m.state = failed
		return false, err
	}
	m.at++
	n := len(m.inputs)
	if m.at > n && m.at >= n+len(m.objects) {
		m.output = m.meta
	}
	if m.at > n && m.at == n+len(m.objects)+n {
		m.state = done
	}
	return m.state == done, nil
}

// both are a store and its jobs, with their models, in another store, beside them.
type both struct {
	st, other *store.Store
	jobs      []*compact.Job
	models    []*model
	done      int
}

// newBoth has blocks 1 to 8, in stores of so much room.
func newBoth(t testing.TB, r *rand.Rand) *both {
	t.Helper()
	room := 20000 + r.Intn(20000)
	x := &both{st: roomy(t, room), other: roomy(t, room)}
	for id := range uint64(8) {
		l, level := anyTraces(r), r.Intn(maxLevel+1)
		for _, st := range []*store.Store{x.st, x.other} {
			if _, err := block.Write(st, id+1, level, l, small); err != nil {
				t.Fatal(err)
			}
		}
	}
	return x
}

// begin begins a job, in both, of so many of the blocks that there are, if it may be.
func (x *both) begin(t testing.TB, which, how int) {
	t.Helper()
	x.st.Fail(-1)
	x.other.Fail(-1)
	var l []api.Meta
	for i := range 2 + how%4 {
		if m, err := read.Meta(x.st, uint64((which+i*(1+how%3))%12)); err == nil {
			l = append(l, m)
		}
	}
	id, now := uint64(9+which%4), int64(which*how)
	j, err := compact.New(x.st, l, id, now, middle)
	if !isJob(l, id) {
		if j != nil || err != error(api.ErrArg) {
			t.Fatalf("New(%v, %d): %v, %v; want %v", l, id, j, err, api.ErrArg)
		}
		return
	}
	if err != nil {
		t.Fatalf("New(%v, %d): %v", l, id, err)
	}
	x.jobs = append(x.jobs, j)
	x.models = append(x.models, &model{st: x.other, inputs: l, id: id, now: now, sizes: middle})
}

// isJob tells whether metas that were read may be merged into that block.
func isJob(l []api.Meta, id uint64) bool {
	ids := map[uint64]bool{id: true}
	for _, m := range l {
		if ids[m.Id] || m.Level >= maxLevel {
			return false
		}
		ids[m.Id] = true
	}
	return len(l) >= 2
}

// do does one of what may be done, as these three tell.
func (x *both) do(t testing.TB, kind, which, how int) {
	t.Helper()
	object := name(uint64(which%12+1), []string{"m", "p000", "x", "i", "p001"}[how%5])
	switch kind % 24 {
	case 0, 1:
		if len(x.jobs) < 4 {
			x.begin(t, which, how)
		}
	case 2:
		if how%3 == 0 {
			x.st.Delete(object)
			x.other.Delete(object)
		}
	case 3:
		if which%3 == 0 {
			x.st.Alter(object, how%30, byte(which))
			x.other.Alter(object, how%30, byte(which))
		}
	case 4:
		x.st.Fail(how%40 - 1)
		x.other.Fail(how%40 - 1)
	case 5:
		if len(x.jobs) > 0 && how%4 == 0 {
			x.run(t, which%len(x.jobs))
		}
	default:
		if len(x.jobs) > 0 {
			x.step(t, which%len(x.jobs))
		}
	}
}

func (x *both) step(t testing.TB, i int) {
	t.Helper()
	want, wrong := x.models[i].step()
	was := x.st.Calls()
	over, err := x.jobs[i].Step()
	if over != want || err != wrong {
		t.Fatalf("Step: %t, %v; want %t, %v", over, err, want, wrong)
	}
	if err == error(api.ErrState) && x.st.Calls() != was {
		t.Fatal("calls behind the end")
	}
	if over {
		x.done++
	}
	expect(t, x.jobs[i], x.models[i].state, x.models[i].output)
}

func (x *both) run(t testing.TB, i int) {
	t.Helper()
	over, wrong := false, error(nil)
	for !over && wrong == nil {
		over, wrong = x.models[i].step()
	}
	if err := x.jobs[i].Run(); err != wrong {
		t.Fatalf("Run: %v; want %v", err, wrong)
	}
	if over {
		x.done++
	}
	expect(t, x.jobs[i], x.models[i].state, x.models[i].output)
}

func TestRowsOfAnyCalls(t *testing.T) { // P20.1 to P20.4, P1
	r := rand.New(rand.NewSource(203))
	over := 0
	for range 400 {
		x := newBoth(t, r)
		for range r.Intn(200) {
			x.do(t, r.Intn(256), r.Intn(256), r.Intn(256))
		}
		over += x.done
		if a, b := x.st.Calls(), x.other.Calls(); b > a {
			t.Fatalf("%d calls; want no fewer than %d", a, b)
		}
		expectObjects(t, x.st, had(t, x.other))
	}
	// Else the rows would hold little.
	if over < 400 {
		t.Errorf("%d jobs were done", over)
	}
}

// FuzzCalls does any calls, three bytes each, beside the model.
func FuzzCalls(f *testing.F) { // P20.1 to P20.4, P1
	f.Add(int64(1), []byte{})
	f.Add(int64(2), []byte{0, 1, 0, 5, 0, 0, 6, 0, 0})
	f.Add(int64(3), []byte{0, 1, 0, 6, 0, 0, 4, 0, 1, 6, 0, 0, 6, 0, 0})
	f.Add(int64(4), []byte{0, 1, 1, 0, 3, 2, 6, 0, 0, 6, 1, 0, 3, 3, 3, 5, 0, 0, 5, 1, 0})
	f.Fuzz(func(t *testing.T, seed int64, l []byte) {
		x := newBoth(t, rand.New(rand.NewSource(seed)))
		for op := range slices.Chunk(l, 3) {
			if len(op) == 3 {
				x.do(t, int(op[0]), int(op[1]), int(op[2]))
			}
		}
		expectObjects(t, x.st, had(t, x.other))
	})
}

// FuzzNew makes jobs of whatever is handed in, and runs those that there are.
func FuzzNew(f *testing.F) { // P20.1, P1
	f.Add(uint64(1), 0, int64(2), int64(9), 2, 2, uint64(2), uint64(3), int64(50), 64, 1, 64, 2)
	f.Add(uint64(1), 10, int64(2), int64(9), 2, 2, uint64(2), uint64(3), int64(50), 64, 1, 64, 2)
	f.Add(uint64(0), -1, int64(-1), int64(-9), 0, 0, uint64(0), uint64(0), int64(-1), 0, 0, 0, 0)
	f.Add(uint64(1), 9, int64(0), int64(maxTime), 200, 12800, uint64(math.MaxUint64), uint64(2), int64(maxTime), 8192, 16, 4096, 8)
	f.Fuzz(func(t *testing.T, a uint64, level int, start, end int64, pages, traces int, b, id uint64, now int64, size, shards, bits, hashes int) {
		x := plain()
		st := roomy(t, maxRoom)
		x.lay(t, st)
		l := []api.Meta{{Id: a, Level: level, Start: start, End: end, Pages: pages, Traces: traces}, numbered(b)}
		s := api.Sizes{Page: size, Shards: shards, Bits: bits, Hashes: hashes}
		ok := a > 0 && b > 0 && id > 0 && a != b && a != id && b != id &&
			level >= 0 && level < maxLevel &&
			start >= 0 && start <= end && end <= maxTime &&
			pages >= 1 && pages <= maxPages && traces >= pages && traces <= pages*maxTraces &&
			now >= 0 && now <= maxTime &&
			size >= 64 && size <= maxPage && shards >= 1 && shards <= 16 &&
			bits >= 8 && bits <= 4096 && bits%8 == 0 && hashes >= 1 && hashes <= 8
		if !ok {
			expectNoJob(t, st, l, id, now, s)
			return
		}
		j := job{id: id, now: now, sizes: s}.made(t, st, l)
		err := j.Run()
		there := (a == 1 || a == 2) && (b == 1 || b == 2)
		if there && (err != nil || j.State() != done) || !there && (err != error(api.ErrNone) || j.State() != failed) {
			t.Errorf("%v, %d", err, j.State())
		}
	})
}
