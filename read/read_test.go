package read_test

import (
	"bytes"
	"encoding/binary"
	"fmt"
	"hash/crc32"
	"math"
	"math/rand"
	"slices"
	"testing"

	"tankard/api"
	"tankard/block"
	"tankard/meta"
	"tankard/page"
	"tankard/read"
	"tankard/store"
	"tankard/trace"
)

const (
	maxTime   = 1 << 40
	maxData   = 64
	maxSpans  = 100
	maxTraces = 64
	maxPage   = 8192
	maxPages  = 200
	maxRoom   = 1 << 20
)

// small are sizes by which each trace, of the least bytes, has a page of its own.
var small = api.Sizes{Page: 64, Shards: 1, Bits: 64, Hashes: 2}

// wide are sizes by which pages are as large as may be.
var wide = api.Sizes{Page: maxPage, Shards: 16, Bits: 4096, Hashes: 8}

// blind are sizes by which a filter soon has all traces.
var blind = api.Sizes{Page: 200, Shards: 1, Bits: 8, Hashes: 1}

func sp(trace, id uint64, start, end int64, data string) api.Span {
	s := api.Span{Trace: trace, Id: id, Start: start, End: end}
	if data != "" {
		s.Data = []byte(data)
	}
	return s
}

func tr(id uint64, l ...api.Span) api.Trace { return api.Trace{Id: id, Spans: l} }

// row is a trace of n spans, each with so much Data.
func row(id uint64, n, data int) api.Trace {
	t := api.Trace{Id: id}
	for i := range n {
		s := sp(id, uint64(i), int64(i/3)+5, int64(i)+7, "")
		for j := range data {
			s.Data = append(s.Data, byte(int(id)+i*5+j))
		}
		t.Spans = append(t.Spans, s)
	}
	return t
}

// rows are n traces of one span each.
func rows(n, data int) []api.Trace {
	var l []api.Trace
	for i := range n {
		l = append(l, row(uint64(i)*3+3, 1, data))
	}
	return l
}

// samples are traces of a block: ordinary ones, and at the bounds.
func samples() [][]api.Trace {
	full := string(bytes.Repeat([]byte{255}, maxData))
	return [][]api.Trace{
		{tr(0, sp(0, 0, 0, 0, ""))},
		{tr(7, sp(7, 1, 3, 9, "x"))},
		{tr(3, sp(3, 1, 7, 20, "a"), sp(3, 2, 8, 50, "")), tr(4, sp(4, 1, 1, 9, "")), tr(9, sp(9, 9, 4, 6, ""))},
		{tr(0, sp(0, 0, 0, maxTime, full)), tr(math.MaxUint64, sp(math.MaxUint64, math.MaxUint64, maxTime, maxTime, full))},
		{row(1, 3, 2), row(2, 1, 0), row(3, 7, 64), row(9, 2, 1)},
		{row(5, maxSpans, maxData), row(1<<63, maxSpans, 0)},
		rows(maxTraces, 0),
		rows(maxTraces+1, 0),
		rows(maxPages, 0),
	}
}

func sizes() []api.Sizes { return []api.Sizes{small, wide, blind} }

func sealed(b []byte) []byte {
	return binary.BigEndian.AppendUint32(bytes.Clone(b), crc32.ChecksumIEEE(b))
}

// name is what chapter 13 says.
func name(id uint64, what string) string { return fmt.Sprintf("b/%016x/%s", id, what) }

func pageName(id uint64, n int) string { return name(id, fmt.Sprintf("p%03d", n)) }

// metaBytes are those of any meta, one that may be or not.
func metaBytes(m api.Meta) []byte {
	b := binary.BigEndian.AppendUint64(nil, m.Id)
	b = binary.BigEndian.AppendUint64(b, uint64(m.Start))
	b = binary.BigEndian.AppendUint64(b, uint64(m.End))
	b = append(b, byte(m.Level))
	b = binary.BigEndian.AppendUint16(b, uint16(m.Pages))
	return sealed(binary.BigEndian.AppendUint32(b, uint32(m.Traces)))
}

// indexBytes are those of any numbers.
func indexBytes(l ...uint64) []byte {
	b := binary.BigEndian.AppendUint16(nil, uint16(len(l)))
	for _, n := range l {
		b = binary.BigEndian.AppendUint64(b, n)
	}
	return sealed(b)
}

// hasAll is a filter that has each trace.
func hasAll() []byte { return sealed([]byte{1, 1, 0, 8, 255}) }

// hasNone is one that has none.
func hasNone() []byte { return sealed([]byte{1, 1, 0, 8, 0}) }

func pageBytes(t testing.TB, l ...api.Trace) []byte {
	t.Helper()
	b, err := page.Put(l)
	if err != nil {
		t.Fatal(err)
	}
	return b
}

func empty(t testing.TB) *store.Store {
	t.Helper()
	st, err := store.New(maxRoom)
	if err != nil {
		t.Fatal(err)
	}
	return st
}

func put(t testing.TB, st *store.Store, name string, b []byte) {
	t.Helper()
	if err := st.Put(name, b); err != nil {
		t.Fatal(name, err)
	}
}

// written is a store with one block.
func written(t testing.TB, id uint64, l []api.Trace, s api.Sizes) (*store.Store, api.Meta) {
	t.Helper()
	st := empty(t)
	m, err := block.Write(st, id, 1, l, s)
	if err != nil {
		t.Fatal(err)
	}
	return st, m
}

func sameSpans(a, b []api.Span) bool {
	return slices.EqualFunc(a, b, func(a, b api.Span) bool {
		return a.Trace == b.Trace && a.Id == b.Id && a.Start == b.Start && a.End == b.End && bytes.Equal(a.Data, b.Data)
	})
}

func sameTraces(a, b []api.Trace) bool {
	return slices.EqualFunc(a, b, func(a, b api.Trace) bool { return a.Id == b.Id && sameSpans(a.Spans, b.Spans) })
}

// its are a trace's spans of these.
func its(l []api.Trace, id uint64) []api.Span {
	i := slices.IndexFunc(l, func(t api.Trace) bool { return t.Id == id })
	if i < 0 {
		return nil
	}
	return l[i].Spans
}

// had are all objects of a store: a call or more, that go well.
func had(t testing.TB, st *store.Store) map[string]string {
	t.Helper()
	st.Fail(-1)
	names, err := st.List("")
	if err != nil {
		t.Fatal(err)
	}
	l := map[string]string{}
	for _, name := range names {
		b, err := st.Get(name)
		if err != nil {
			t.Fatal(err)
		}
		l[name] = string(b)
	}
	return l
}

func expectMeta(t testing.TB, st *store.Store, id uint64, want api.Meta) {
	t.Helper()
	if m, err := read.Meta(st, id); err != nil || m != want {
		t.Errorf("Meta(%d): %v, %v; want %v", id, m, err, want)
	}
}

func expectNoMeta(t testing.TB, st *store.Store, id uint64, want api.Code) {
	t.Helper()
	if m, err := read.Meta(st, id); err != error(want) || m != (api.Meta{}) {
		t.Errorf("Meta(%d): %v, %v; want %v", id, m, err, want)
	}
}

// expectFound expects these, by so many calls of the store.
func expectFound(t testing.TB, st *store.Store, id, trace uint64, want []api.Span, calls int) {
	t.Helper()
	was := st.Calls()
	if l, err := read.Find(st, id, trace); err != nil || !sameSpans(l, want) {
		t.Errorf("Find(%d, %d): %v, %v; want %v", id, trace, l, err, want)
	}
	if n := st.Calls() - was; n != calls {
		t.Errorf("Find(%d, %d): %d calls; want %d", id, trace, n, calls)
	}
}

func expectNotFound(t testing.TB, st *store.Store, id, trace uint64, want api.Code) {
	t.Helper()
	if l, err := read.Find(st, id, trace); err != error(want) || len(l) != 0 {
		t.Errorf("Find(%d, %d): %v, %v; want %v", id, trace, l, err, want)
	}
}

func expectAll(t testing.TB, st *store.Store, id uint64, want []api.Trace) {
	t.Helper()
	if l, err := read.All(st, id); err != nil || !sameTraces(l, want) {
		t.Errorf("All(%d): %v, %v; want %v", id, l, err, want)
	}
}

func expectNotAll(t testing.TB, st *store.Store, id uint64, want api.Code) {
	t.Helper()
	if l, err := read.All(st, id); err != error(want) || len(l) != 0 {
		t.Errorf("All(%d): %v, %v; want %v", id, l, err, want)
	}
}

// fault is something that is wrong with an object, and what is told of it.
type fault struct {
	name string
	make func(t testing.TB, st *store.Store, name string)
	want api.Code
}

// faults are one of each kind.
func faults() []fault {
	as := func(b []byte) func(t testing.TB, st *store.Store, name string) {
		return func(t testing.TB, st *store.Store, name string) { put(t, st, name, b) }
	}
	return []fault{
		{"gone", func(t testing.TB, st *store.Store, name string) {
			if err := st.Delete(name); err != nil {
				t.Fatal(err)
			}
		}, api.ErrNone},
		{"altered", func(t testing.TB, st *store.Store, name string) {
			if !st.Alter(name, 0, 1) {
				t.Fatal(name)
			}
		}, api.ErrSum},
		{"of no bytes", as(nil), api.ErrForm},
		{"too short for a sum", as([]byte{1, 2, 3}), api.ErrForm},
		{"sealed, of no bytes", as(sealed(nil)), api.ErrForm},
		{"of another form", as(sealed([]byte{255, 255, 255, 255, 9})), api.ErrForm},
	}
}

func TestMeta(t *testing.T) { // P15.1, P15.5
	for _, l := range samples() {
		for _, s := range sizes() {
			for _, id := range []uint64{1, 9, 1 << 63, math.MaxUint64} {
				st, m := written(t, id, l, s)
				was := st.Calls()
				expectMeta(t, st, id, m)
				if n := st.Calls() - was; n != 1 {
					t.Errorf("%d calls", n)
				}
			}
		}
	}
}

func TestMetaAsItIsTold(t *testing.T) { // P15.1
	st := empty(t)
	for _, m := range []api.Meta{
		{Id: 1, Pages: 1, Traces: 1},
		{Id: 2, Level: 10, Start: maxTime, End: maxTime, Pages: maxPages, Traces: maxPages * maxTraces},
		{Id: 0x0123456789abcdef, Level: 3, Start: 5, End: 8, Pages: 2, Traces: 9},
	} {
		put(t, st, name(m.Id, "m"), metaBytes(m))
		expectMeta(t, st, m.Id, m)
	}
}

func TestMetaThatIsWrong(t *testing.T) { // P15.1
	for _, x := range faults() {
		st, _ := written(t, 9, rows(3, 0), small)
		x.make(t, st, name(9, "m"))
		expectNoMeta(t, st, 9, x.want)
	}
	st, m := written(t, 9, rows(3, 0), small)
	expectNoMeta(t, st, 8, api.ErrNone)
	expectNoMeta(t, st, 0, api.ErrNone)
	st.Fail(0)
	expectNoMeta(t, st, 9, api.ErrFail)
	expectMeta(t, st, 9, m)
	// One of another kind, and such as may not be.
	put(t, st, name(9, "m"), indexBytes(3, 6, 9))
	expectNoMeta(t, st, 9, api.ErrForm)
	for _, bad := range []api.Meta{
		{Id: 9, Level: 11, Pages: 1, Traces: 1},
		{Id: 9, Pages: 0, Traces: 0},
		{Id: 9, Pages: 1, Traces: 65},
		{Id: 9, Start: 3, End: 2, Pages: 1, Traces: 1},
	} {
		put(t, st, name(9, "m"), metaBytes(bad))
		expectNoMeta(t, st, 9, api.ErrForm)
	}
}

func TestMetaOfAnotherId(t *testing.T) { // P15.1
	st, m := written(t, 9, rows(3, 0), small)
	for _, id := range []uint64{0, 1, 8, 10, 1<<32 + 9, math.MaxUint64} {
		put(t, st, name(id, "m"), metaBytes(m))
		expectNoMeta(t, st, id, api.ErrForm)
	}
	// Also where its bytes' sum is wrong: that comes first.
	st.Alter(name(8, "m"), 3, 1)
	expectNoMeta(t, st, 8, api.ErrSum)
	expectMeta(t, st, 9, m)
}

func TestReadOfNoStore(t *testing.T) { // P15.1
	for _, id := range []uint64{0, 1, 9, math.MaxUint64} {
		expectNoMeta(t, nil, id, api.ErrArg)
		expectNotAll(t, nil, id, api.ErrArg)
		for _, trace := range []uint64{0, 5, math.MaxUint64} {
			expectNotFound(t, nil, id, trace, api.ErrArg)
		}
	}
}

func TestReadOfNoBlock(t *testing.T) { // P15.1 to P15.3, the chapter's example
	st := empty(t)
	for _, id := range []uint64{0, 1, 9, math.MaxUint64} {
		expectNoMeta(t, st, id, api.ErrNone)
		expectNotAll(t, st, id, api.ErrNone)
		expectNotFound(t, st, id, 3, api.ErrNone)
	}
}

func TestFind(t *testing.T) { // P15.2, P15.5
	for _, l := range samples() {
		for _, s := range sizes() {
			st, _ := written(t, 9, l, s)
			for _, x := range l {
				expectFound(t, st, 9, x.Id, x.Spans, 3)
			}
		}
	}
}

func TestFindOfWhatIsntThere(t *testing.T) { // P15.2
	r := rand.New(rand.NewSource(15))
	for _, l := range samples() {
		for _, s := range sizes() {
			st, _ := written(t, 9, l, s)
			ids := []uint64{0, 1, 2, math.MaxUint64}
			for _, x := range l {
				ids = append(ids, x.Id-1, x.Id+1, r.Uint64())
			}
			for _, id := range ids {
				if got, err := read.Find(st, 9, id); err != nil || !sameSpans(got, its(l, id)) {
					t.Errorf("Find(9, %d): %v, %v", id, got, err)
				}
			}
		}
	}
}

func TestFindAsksNoMoreThanItNeeds(t *testing.T) { // P15.2
	l := []api.Trace{row(3, 2, 1), row(7, 1, 0), row(9, 3, 2)}
	st, _ := written(t, 9, l, small)
	put(t, st, name(9, "f"), hasNone())
	for id := range uint64(12) {
		expectFound(t, st, 9, id, nil, 1)
	}
	put(t, st, name(9, "f"), hasAll())
	for id := range uint64(12) {
		calls := 3
		if id < 3 {
			calls = 2
		}
		expectFound(t, st, 9, id, its(l, id), calls)
	}
	put(t, st, name(9, "i"), indexBytes())
	for id := range uint64(12) {
		expectFound(t, st, 9, id, nil, 2)
	}
	// Nor does it ask the meta, nor other pages.
	put(t, st, name(9, "i"), indexBytes(3, 7, 9))
	for _, name := range []string{name(9, "m"), pageName(9, 0), pageName(9, 2)} {
		if err := st.Delete(name); err != nil {
			t.Fatal(err)
		}
	}
	expectFound(t, st, 9, 7, its(l, 7), 3)
	expectFound(t, st, 9, 8, nil, 3)
}

func TestFindReadsThePageThatTheIndexTells(t *testing.T) { // P15.2
	st := empty(t)
	put(t, st, name(9, "f"), hasAll())
	put(t, st, name(9, "i"), indexBytes(5, 20, 30))
	put(t, st, pageName(9, 0), pageBytes(t, row(5, 1, 0), row(20, 2, 0), row(31, 4, 0)))
	put(t, st, pageName(9, 1), pageBytes(t, row(4, 3, 0), row(21, 2, 1)))
	put(t, st, pageName(9, 2), pageBytes(t))
	for _, x := range []struct {
		trace uint64
		want  api.Trace
		calls int
	}{
		{4, api.Trace{}, 2},
		{5, row(5, 1, 0), 3},
		{19, api.Trace{}, 3},
		{20, api.Trace{}, 3},
		{21, row(21, 2, 1), 3},
		{30, api.Trace{}, 3},
		{31, api.Trace{}, 3},
	} {
		expectFound(t, st, 9, x.trace, x.want.Spans, x.calls)
	}
}

func TestFindInTheLastOfAllPages(t *testing.T) { // P15.2
	l := rows(maxPages, 0)
	st, m := written(t, 9, l, small)
	if m.Pages != maxPages {
		t.Fatal(m)
	}
	for _, i := range []int{0, 9, 10, 99, 100, maxPages - 1} {
		expectFound(t, st, 9, l[i].Id, l[i].Spans, 3)
		if err := st.Delete(pageName(9, i)); err != nil {
			t.Fatal(err)
		}
		expectNotFound(t, st, 9, l[i].Id, api.ErrNone)
	}
}

func TestFindInABlockAmongOthers(t *testing.T) { // P15.2
	st := empty(t)
	for id := uint64(1); id < 20; id++ {
		if _, err := block.Write(st, id, 1, []api.Trace{row(5, int(id), 1), row(7+id, 1, 0)}, small); err != nil {
			t.Fatal(err)
		}
	}
	for id := uint64(1); id < 20; id++ {
		expectFound(t, st, id, 5, row(5, int(id), 1).Spans, 3)
		expectAll(t, st, id, []api.Trace{row(5, int(id), 1), row(7+id, 1, 0)})
	}
}

func TestFindTellsTheFirstError(t *testing.T) { // P15.2
	l := rows(3, 1)
	objects := []string{name(9, "f"), name(9, "i"), pageName(9, 1)}
	none := func(testing.TB, *store.Store, string) {}
	for i := range objects {
		for _, x := range faults() {
			for _, y := range append(faults(), fault{make: none}) {
				st, _ := written(t, 9, l, small)
				// Whatever is wrong behind the first thing that is doesn't count.
				x.make(t, st, objects[i])
				for _, name := range objects[i+1:] {
					y.make(t, st, name)
				}
				was := st.Calls()
				expectNotFound(t, st, 9, l[1].Id, x.want)
				if n := st.Calls() - was; n != i+1 {
					t.Errorf("%s %s: %d calls", objects[i], x.name, n)
				}
			}
		}
	}
}

func TestFindOfCallsThatFail(t *testing.T) { // P15.2
	l := rows(3, 1)
	st, _ := written(t, 9, l, small)
	for n := range 3 {
		st.Fail(n)
		expectNotFound(t, st, 9, l[1].Id, api.ErrFail)
		expectFound(t, st, 9, l[1].Id, l[1].Spans, 3)
	}
	st.Fail(3)
	expectFound(t, st, 9, l[1].Id, l[1].Spans, 3)
	expectNotFound(t, st, 9, l[1].Id, api.ErrFail)
}

func TestFindOfWhatIsOfAnotherKind(t *testing.T) { // P15.2
	l := rows(3, 1)
	kinds := map[string][]byte{"m": nil, "f": nil, "i": nil, "p001": nil}
	st, _ := written(t, 9, l, small)
	for what := range kinds {
		b, err := st.Get(name(9, what))
		if err != nil {
			t.Fatal(err)
		}
		kinds[what] = b
	}
	for _, what := range []string{"f", "i", "p001"} {
		for other, b := range kinds {
			if other != what {
				put(t, st, name(9, what), b)
				expectNotFound(t, st, 9, l[1].Id, api.ErrForm)
			}
		}
		put(t, st, name(9, what), kinds[what])
	}
	expectFound(t, st, 9, l[1].Id, l[1].Spans, 3)
}

func TestAll(t *testing.T) { // P15.3, P15.5
	for _, l := range samples() {
		for _, s := range sizes() {
			st, m := written(t, 9, l, s)
			was := st.Calls()
			expectAll(t, st, 9, l)
			if n := st.Calls() - was; n != 1+m.Pages {
				t.Errorf("%d calls for %d pages", n, m.Pages)
			}
		}
	}
}

func TestAllOfAsManyAsMayBe(t *testing.T) { // P15.3
	l := rows(maxPages*maxTraces, 0)
	st, m := written(t, 9, l, wide)
	if m.Pages != maxPages {
		t.Fatal(m)
	}
	expectAll(t, st, 9, l)
}

func TestAllAsksMetaAndPagesAlone(t *testing.T) { // P15.3
	l := rows(3, 1)
	st, _ := written(t, 9, l, small)
	for _, what := range []string{"f", "i"} {
		if err := st.Delete(name(9, what)); err != nil {
			t.Fatal(err)
		}
	}
	// And of these as many as the meta tells.
	put(t, st, pageName(9, 3), []byte{1})
	expectAll(t, st, 9, l)
	put(t, st, name(9, "m"), metaBytes(api.Meta{Id: 9, Pages: 2, Traces: 2}))
	expectAll(t, st, 9, l[:2])
	put(t, st, name(9, "m"), metaBytes(api.Meta{Id: 9, Pages: 1, Traces: 1}))
	expectAll(t, st, 9, l[:1])
	put(t, st, name(9, "m"), metaBytes(api.Meta{Id: 9, Pages: 4, Traces: 4}))
	expectNotAll(t, st, 9, api.ErrForm)
	put(t, st, name(9, "m"), metaBytes(api.Meta{Id: 9, Pages: 5, Traces: 5}))
	put(t, st, pageName(9, 3), pageBytes(t, row(100, 1, 0)))
	expectNotAll(t, st, 9, api.ErrNone)
}

func TestAllTellsTheFirstError(t *testing.T) { // P15.3
	l := rows(4, 1)
	objects := []string{name(9, "m"), pageName(9, 0), pageName(9, 1), pageName(9, 2), pageName(9, 3)}
	none := func(testing.TB, *store.Store, string) {}
	for i := range objects {
		for _, x := range faults() {
			for _, y := range append(faults(), fault{make: none}) {
				st, _ := written(t, 9, l, small)
				x.make(t, st, objects[i])
				for _, name := range objects[i+1:] {
					y.make(t, st, name)
				}
				was := st.Calls()
				expectNotAll(t, st, 9, x.want)
				if n := st.Calls() - was; n != i+1 {
					t.Errorf("%s %s: %d calls", objects[i], x.name, n)
				}
			}
		}
	}
}

func TestAllOfCallsThatFail(t *testing.T) { // P15.3
	l := rows(4, 1)
	st, _ := written(t, 9, l, small)
	for n := range 5 {
		st.Fail(n)
		expectNotAll(t, st, 9, api.ErrFail)
		expectAll(t, st, 9, l)
	}
	st.Fail(5)
	expectAll(t, st, 9, l)
	expectNotAll(t, st, 9, api.ErrFail)
}

func TestAllOfAnotherIdsMeta(t *testing.T) { // P15.3
	st, m := written(t, 9, rows(3, 0), small)
	put(t, st, name(8, "m"), metaBytes(m))
	expectNotAll(t, st, 8, api.ErrForm)
	// Whatever its pages are.
	put(t, st, pageName(8, 0), []byte{1, 2, 3, 4, 5})
	expectNotAll(t, st, 8, api.ErrForm)
}

// ofPages is a store with a block of these pages, whose meta tells as many
// traces.
func ofPages(t testing.TB, traces int, pages ...[]api.Trace) *store.Store {
	t.Helper()
	st := empty(t)
	put(t, st, name(9, "m"), metaBytes(api.Meta{Id: 9, Pages: len(pages), Traces: traces}))
	for i, l := range pages {
		put(t, st, pageName(9, i), pageBytes(t, l...))
	}
	return st
}

func TestAllOfWhatIsntCanonical(t *testing.T) { // P15.3
	a, b, c := row(3, 1, 0), row(7, 2, 1), row(8, 1, 2)
	of := func(l ...api.Trace) []api.Trace { return l }
	for _, pages := range [][][]api.Trace{
		{of(b), of(a)},
		{of(a), of(a)},
		{of(a, b), of(b, c)},
		{of(b, c), of(a)},
		{of(a, c), of(b)},
		{of(a), of(b), of(b)},
		{of(a), of(c), of(b)},
		{of(b), of(), of(a)},
		{of(b), of(), of(b, c)},
		{of(c), of(a, b)},
		{of(tr(7, sp(7, 0, 1, 2, ""))), of(tr(7, sp(7, 1, 1, 2, "")))},
		{of(row(math.MaxUint64, 1, 0)), of(row(0, 1, 0))},
	} {
		n := len(slices.Concat(pages...))
		expectNotAll(t, ofPages(t, max(n, len(pages)), pages...), 9, api.ErrForm)
	}
}

func TestAllOfMoreOrFewerThanTheMetaTells(t *testing.T) { // P15.3
	l := rows(6, 1)
	for n := 3; n < 12; n++ {
		st := ofPages(t, n, l[:2], l[2:5], l[5:])
		if n == len(l) {
			expectAll(t, st, 9, l)
		} else {
			expectNotAll(t, st, 9, api.ErrForm)
		}
	}
	for n := 2; n < 10; n++ {
		st := ofPages(t, n, nil, nil)
		expectNotAll(t, st, 9, api.ErrForm)
	}
}

func TestAllOfPagesOfNoTraces(t *testing.T) { // P15.3
	// No writer makes such a block, but its traces are canonical, and as many.
	l := rows(5, 1)
	expectAll(t, ofPages(t, 5, l[:3], nil, l[3:], nil), 9, l)
	expectAll(t, ofPages(t, 5, nil, l), 9, l)
}

func TestPagesErrorsComeAheadOfTheTraces(t *testing.T) { // P15.3
	a, b := row(3, 1, 0), row(7, 1, 0)
	st := ofPages(t, 3, []api.Trace{b}, []api.Trace{a}, []api.Trace{a})
	st.Alter(pageName(9, 2), 8, 4)
	expectNotAll(t, st, 9, api.ErrSum)
	// As do those of pages behind more traces than there should be.
	st = ofPages(t, 3, rows(50, 0), rows(60, 0), rows(1, 0))
	if err := st.Delete(pageName(9, 2)); err != nil {
		t.Fatal(err)
	}
	expectNotAll(t, st, 9, api.ErrNone)
}

func TestReadingChangesNothing(t *testing.T) { // P15.4, R2
	for _, l := range samples() {
		st, _ := written(t, 9, l, small)
		st.Alter(pageName(9, 0), 1, 1)
		was := had(t, st)
		for _, n := range []int{-1, 0, 1, 2, 3} {
			for _, id := range []uint64{9, 10} {
				st.Fail(n)
				read.Meta(st, id)
				st.Fail(n)
				read.Find(st, id, l[0].Id)
				st.Fail(n)
				read.All(st, id)
			}
		}
		is := had(t, st)
		if len(is) != len(was) {
			t.Error("other names")
		}
		for name, b := range was {
			if is[name] != b {
				t.Errorf("%s changed", name)
			}
		}
	}
}

// scribble alters all of the spans' memory, up to their capacities, by which two
// lists might run into each other.
func scribble(l []api.Span) {
	for i := range l {
		d := l[i].Data[:cap(l[i].Data)]
		for k := range d {
			d[k] ^= 255
		}
	}
	l = l[:cap(l)]
	for i := range l {
		l[i].Trace, l[i].Id, l[i].End = l[i].Trace+1, l[i].Id+5, l[i].End+1
	}
}

func TestAnswersAreNewMemory(t *testing.T) { // P15.4
	for _, l := range samples() {
		for _, s := range sizes() {
			st, _ := written(t, 9, l, s)
			a, _ := read.All(st, 9)
			for i := range a {
				scribble(a[i].Spans)
				if !sameTraces(a[i+1:], l[i+1:]) {
					t.Fatalf("%d shares memory with one behind it", i)
				}
			}
			expectAll(t, st, 9, l)
			b, _ := read.Find(st, 9, l[0].Id)
			for i := range b {
				scribble(b[i : i+1 : i+1])
				if !sameSpans(b[i+1:], l[0].Spans[i+1:]) {
					t.Fatalf("%d shares memory with one behind it", i)
				}
			}
			expectFound(t, st, 9, l[0].Id, l[0].Spans, 3)
			expectAll(t, st, 9, l)
		}
	}
}

func TestWhatWasAlteredIsNotRead(t *testing.T) { // P15.5
	l := []api.Trace{row(3, 1, 1), row(7, 2, 0), row(8, 1, 0)}
	st, m := written(t, 9, l, api.Sizes{Page: 110, Shards: 2, Bits: 16, Hashes: 1})
	reads := func(at string) {
		if x, err := read.Meta(st, 9); err == nil && x != m || err != nil && x != (api.Meta{}) {
			t.Errorf("%s: Meta: %v, %v", at, x, err)
		}
		if x, err := read.All(st, 9); err == nil && !sameTraces(x, l) || err != nil && len(x) != 0 {
			t.Errorf("%s: All: %v, %v", at, x, err)
		}
		for _, id := range []uint64{0, 3, 5, 7, 8, 9} {
			if x, err := read.Find(st, 9, id); err == nil && !sameSpans(x, its(l, id)) || err != nil && len(x) != 0 {
				t.Errorf("%s: Find(%d): %v, %v", at, id, x, err)
			}
		}
	}
	for object, b := range had(t, st) {
		for at := range len(b) {
			for _, x := range []byte{1, 2, 4, 8, 16, 32, 64, 128, 255, byte(at)*2 + 1} {
				st.Alter(object, at, x)
				reads(fmt.Sprintf("%s, %d, %d", object, at, x))
				st.Alter(object, at, x)
			}
		}
	}
	expectAll(t, st, 9, l)
}

func TestWhatWasAlteredIsToldAsSuch(t *testing.T) { // P15.5
	l := rows(3, 1)
	st, _ := written(t, 9, l, small)
	for object, b := range had(t, st) {
		for at := range len(b) {
			st.Alter(object, at, 64)
			_, err := read.All(st, 9)
			_, found := read.Find(st, 9, l[1].Id)
			switch object {
			case name(9, "m"):
				expectNoMeta(t, st, 9, api.ErrSum)
				if err != error(api.ErrSum) || found != nil {
					t.Error(object, at, err, found)
				}
			case name(9, "f"), name(9, "i"):
				if err != nil || found != error(api.ErrSum) {
					t.Error(object, at, err, found)
				}
			case pageName(9, 1):
				if err != error(api.ErrSum) || found != error(api.ErrSum) {
					t.Error(object, at, err, found)
				}
			default:
				if err != error(api.ErrSum) || found != nil {
					t.Error(object, at, err, found)
				}
			}
			st.Alter(object, at, 64)
		}
	}
}

// anyTraces are canonical traces, one at least.
func anyTraces(r *rand.Rand) []api.Trace {
	var l []api.Trace
	id := r.Uint64() >> (1 + r.Intn(63))
	for range 1 + r.Intn(30) {
		t := row(id, 1+r.Intn(12), r.Intn(maxData+1))
		for i := range t.Spans {
			t.Spans[i].End += int64(r.Intn(1000))
		}
		l = append(l, t)
		id += uint64(1 + r.Intn(1<<r.Intn(30)))
	}
	return l
}

func TestReadOfAny(t *testing.T) { // P15.1 to P15.3, P15.5
	r := rand.New(rand.NewSource(15))
	for range 1000 {
		l := anyTraces(r)
		s := api.Sizes{Page: 64 + r.Intn(1<<(6+r.Intn(7))), Shards: 1 + r.Intn(16), Bits: 8 * (1 + r.Intn(20)), Hashes: 1 + r.Intn(8)}
		id := 1 + r.Uint64()>>(1+r.Intn(63))
		st, m := written(t, id, l, s)
		expectMeta(t, st, id, m)
		expectAll(t, st, id, l)
		for _, x := range l {
			expectFound(t, st, id, x.Id, x.Spans, 3)
		}
		for range 20 {
			x := l[0].Id + uint64(r.Intn(1<<(1+r.Intn(20))))
			if got, err := read.Find(st, id, x); err != nil || !sameSpans(got, its(l, x)) {
				t.Errorf("Find(%d): %v, %v", x, got, err)
			}
		}
		// One object amiss: an error, or what was written.
		names, _ := st.List("")
		x := faults()[r.Intn(len(faults()))]
		x.make(t, st, names[r.Intn(len(names))])
		if got, err := read.All(st, id); err == nil && !sameTraces(got, l) || err != nil && err != error(x.want) {
			t.Errorf("%s: %v, %v", x.name, got, err)
		}
		for _, y := range l {
			if got, err := read.Find(st, id, y.Id); err == nil && !sameSpans(got, y.Spans) || err != nil && err != error(x.want) {
				t.Errorf("%s: %v, %v", x.name, got, err)
			}
		}
	}
}

// FuzzRead reads whatever is sealed: an error, or what the calls of the layers
// below tell of those bytes.
func FuzzRead(f *testing.F) { // P15.1 to P15.3, P1
	l := []api.Trace{row(3, 1, 1), row(7, 2, 0), row(8, 1, 0)}
	st, _ := written(f, 9, l, small)
	all := had(f, st)
	open := func(what string) []byte { b := all[name(9, what)]; return []byte(b[:len(b)-4]) }
	f.Add(open("m"), open("f"), open("i"), open("p000"), open("p001"), uint64(9), uint64(7))
	f.Add(open("m"), []byte{1, 1, 0, 8, 255}, open("i"), open("p001"), open("p000"), uint64(9), uint64(4))
	f.Add(open("f"), open("m"), []byte{0, 0}, []byte{0, 0}, []byte{0, 0}, uint64(0), uint64(0))
	two := metaBytes(api.Meta{Id: 9, Pages: 2, Traces: 2})
	f.Add(two[:len(two)-4], []byte{1, 1, 0, 8, 255}, open("i"), open("p000"), open("p001"), uint64(9), uint64(3))
	f.Fuzz(func(t *testing.T, m, filter, index, p0, p1 []byte, id, trc uint64) {
		st := empty(t)
		for what, b := range map[string][]byte{"m": m, "f": filter, "i": index, "p000": p0, "p001": p1} {
			put(t, st, name(id, what), sealed(b))
		}
		told, err := read.Meta(st, id)
		want, wrong := meta.Get(sealed(m))
		if wrong == nil && want.Id != id {
			want, wrong = api.Meta{}, api.ErrForm
		}
		if told != want || err != wrong {
			t.Errorf("Meta: %v, %v; want %v, %v", told, err, want, wrong)
		}
		a, errA := page.Get(sealed(p0))
		b, errB := page.Get(sealed(p1))
		if got, err := read.All(st, id); err == nil {
			both := slices.Concat(a, b)[:told.Traces]
			if !trace.Is(got) || told.Pages > 2 || !sameTraces(got, both) || errA != nil || told.Pages == 2 && errB != nil {
				t.Errorf("All: %v of %v", got, both)
			}
		} else if len(got) != 0 || wrong == nil && told.Pages == 1 && errA == nil && len(a) == told.Traces {
			t.Errorf("All: %v, %v", got, err)
		}
		got, err := read.Find(st, id, trc)
		if len(got) != 0 && (err != nil || !sameSpans(got, its(a, trc)) && !sameSpans(got, its(b, trc))) {
			t.Errorf("Find: %v, %v", got, err)
		}
	})
}
