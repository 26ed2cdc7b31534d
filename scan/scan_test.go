package scan_test

import (
	"bytes"
	"encoding/binary"
	"fmt"
	"hash/crc32"
	"math"
	"math/rand"
	"slices"
	"testing"

	"tankard/api"
	"tankard/block"
	"tankard/page"
	"tankard/read"
	"tankard/scan"
	"tankard/store"
)

const (
	maxTime   = 1 << 40
	maxData   = 64
	maxSpans  = 100
	maxTraces = 64
	maxPage   = 8192
	maxPages  = 200
	maxRoom   = 1 << 20
)

// small are sizes by which each trace, of the least bytes, has a page of its own.
var small = api.Sizes{Page: 64, Shards: 1, Bits: 64, Hashes: 2}

// wide are sizes by which pages are as large as may be.
var wide = api.Sizes{Page: maxPage, Shards: 16, Bits: 4096, Hashes: 8}

// middle are sizes by which pages have some traces each.
var middle = api.Sizes{Page: 200, Shards: 1, Bits: 8, Hashes: 1}

func sp(trace, id uint64, start, end int64, data string) api.Span {
	s := api.Span{Trace: trace, Id: id, Start: start, End: end}
	if data != "" {
		s.Data = []byte(data)
	}
	return s
}

func tr(id uint64, l ...api.Span) api.Trace { return api.Trace{Id: id, Spans: l} }

// row is a trace of n spans, each with so much Data.
func row(id uint64, n, data int) api.Trace {
	t := api.Trace{Id: id}
	for i := range n {
		s := sp(id, uint64(i), int64(i/3)+5, int64(i)+7, "")
		for j := range data {
			s.Data = append(s.Data, byte(int(id)+i*5+j))
		}
		t.Spans = append(t.Spans, s)
	}
	return t
}

// rows are n traces of one span each.
func rows(n, data int) []api.Trace {
	var l []api.Trace
	for i := range n {
		l = append(l, row(uint64(i)*3+3, 1, data))
	}
	return l
}

// samples are traces of a block: ordinary ones, and at the bounds.
func samples() [][]api.Trace {
	full := string(bytes.Repeat([]byte{255}, maxData))
	return [][]api.Trace{
		{tr(0, sp(0, 0, 0, 0, ""))},
		{tr(7, sp(7, 1, 3, 9, "x"))},
		{tr(3, sp(3, 1, 7, 20, "a"), sp(3, 2, 8, 50, "")), tr(4, sp(4, 1, 1, 9, "")), tr(9, sp(9, 9, 4, 6, ""))},
		{tr(0, sp(0, 0, 0, maxTime, full)), tr(math.MaxUint64, sp(math.MaxUint64, math.MaxUint64, maxTime, maxTime, full))},
		{row(1, 3, 2), row(2, 1, 0), row(3, 7, 64), row(9, 2, 1)},
		{row(5, maxSpans, maxData), row(1<<63, maxSpans, 0)},
		rows(maxTraces, 0),
		rows(maxTraces+1, 0),
		rows(maxPages, 0),
	}
}

func sizes() []api.Sizes { return []api.Sizes{small, wide, middle} }

func sealed(b []byte) []byte {
	return binary.BigEndian.AppendUint32(bytes.Clone(b), crc32.ChecksumIEEE(b))
}

// name is what chapter 13 says.
func name(id uint64, what string) string { return fmt.Sprintf("b/%016x/%s", id, what) }

func pageName(id uint64, n int) string { return name(id, fmt.Sprintf("p%03d", n)) }

// metaBytes are those of any meta, one that may be or not.
func metaBytes(m api.Meta) []byte {
	b := binary.BigEndian.AppendUint64(nil, m.Id)
	b = binary.BigEndian.AppendUint64(b, uint64(m.Start))
	b = binary.BigEndian.AppendUint64(b, uint64(m.End))
	b = append(b, byte(m.Level))
	b = binary.BigEndian.AppendUint16(b, uint16(m.Pages))
	return sealed(binary.BigEndian.AppendUint32(b, uint32(m.Traces)))
}

func pageBytes(t testing.TB, l ...api.Trace) []byte {
	t.Helper()
	b, err := page.Put(l)
	if err != nil {
		t.Fatal(err)
	}
	return b
}

func empty(t testing.TB) *store.Store {
	t.Helper()
	st, err := store.New(maxRoom)
	if err != nil {
		t.Fatal(err)
	}
	return st
}

func put(t testing.TB, st *store.Store, name string, b []byte) {
	t.Helper()
	if err := st.Put(name, b); err != nil {
		t.Fatal(name, err)
	}
}

func drop(t testing.TB, st *store.Store, name string) {
	t.Helper()
	if err := st.Delete(name); err != nil {
		t.Fatal(name, err)
	}
}

// written is a store with one block.
func written(t testing.TB, id uint64, l []api.Trace, s api.Sizes) (*store.Store, api.Meta) {
	t.Helper()
	st := empty(t)
	m, err := block.Write(st, id, 1, l, s)
	if err != nil {
		t.Fatal(err)
	}
	return st, m
}

// ofPages is a store with the block 9, of these pages, whose meta tells as many
// traces.
func ofPages(t testing.TB, traces int, pages ...[]api.Trace) *store.Store {
	t.Helper()
	st := empty(t)
	put(t, st, name(9, "m"), metaBytes(api.Meta{Id: 9, Pages: len(pages), Traces: traces}))
	for i, l := range pages {
		put(t, st, pageName(9, i), pageBytes(t, l...))
	}
	return st
}

func of(l ...api.Trace) []api.Trace { return l }

func sameSpans(a, b []api.Span) bool {
	return slices.EqualFunc(a, b, func(a, b api.Span) bool {
		return a.Trace == b.Trace && a.Id == b.Id && a.Start == b.Start && a.End == b.End && bytes.Equal(a.Data, b.Data)
	})
}

func sameTrace(a, b api.Trace) bool { return a.Id == b.Id && sameSpans(a.Spans, b.Spans) }

func sameTraces(a, b []api.Trace) bool { return slices.EqualFunc(a, b, sameTrace) }

// had are all objects of a store: a call or more, that go well.
func had(t testing.TB, st *store.Store) map[string]string {
	t.Helper()
	st.Fail(-1)
	names, err := st.List("")
	if err != nil {
		t.Fatal(err)
	}
	l := map[string]string{}
	for _, name := range names {
		b, err := st.Get(name)
		if err != nil {
			t.Fatal(err)
		}
		l[name] = string(b)
	}
	return l
}

func opened(t testing.TB, st *store.Store, id uint64) *scan.Scanner {
	t.Helper()
	was := st.Calls()
	s, err := scan.Open(st, id)
	if err != nil || s == nil {
		t.Fatalf("Open(%d): %v", id, err)
	}
	if n := st.Calls() - was; n != 1 || s.Done() {
		t.Errorf("Open(%d): %d calls, done: %t", id, n, s.Done())
	}
	return s
}

func expectNotOpened(t testing.TB, st *store.Store, id uint64, want api.Code) {
	t.Helper()
	if s, err := scan.Open(st, id); err != error(want) || s != nil {
		t.Errorf("Open(%d): %v, %v; want %v", id, s, err, want)
	}
}

// expectNext expects a trace, by so many calls of the store, and whether there is
// none behind it.
func expectNext(t testing.TB, st *store.Store, s *scan.Scanner, want api.Trace, calls int, done bool) {
	t.Helper()
	was := st.Calls()
	x, ok, err := s.Next()
	if err != nil || !ok || !sameTrace(x, want) {
		t.Errorf("Next: %v, %t, %v; want %v", x, ok, err, want)
	}
	if n := st.Calls() - was; n != calls {
		t.Errorf("Next of %d: %d calls; want %d", want.Id, n, calls)
	}
	if s.Done() != done {
		t.Errorf("Done behind %d: %t", want.Id, !done)
	}
}

// expectOver expects the end, or an error, at once by so many calls of the store,
// and then again and again by none.
func expectOver(t testing.TB, st *store.Store, s *scan.Scanner, want error, calls int) {
	t.Helper()
	for range 4 {
		was := st.Calls()
		x, ok, err := s.Next()
		if err != want || ok || x.Id != 0 || len(x.Spans) != 0 {
			t.Errorf("Next: %v, %t, %v; want %v", x, ok, err, want)
		}
		if n := st.Calls() - was; n != calls || !s.Done() {
			t.Errorf("Next: %d calls; want %d; done: %t", n, calls, s.Done())
		}
		calls = 0
	}
}

// all are the traces that a new scanner tells, and its error.
func all(st *store.Store, id uint64) ([]api.Trace, error) {
	s, err := scan.Open(st, id)
	if err != nil {
		return nil, err
	}
	for l := []api.Trace(nil); ; {
		x, ok, err := s.Next()
		if !ok {
			return l, err
		}
		l = append(l, x)
	}
}

// each are the first traces that Each tells, most at most.
func each(t testing.TB, st *store.Store, id uint64, most int) []api.Trace {
	t.Helper()
	var l []api.Trace
	over := false
	scan.Each(st, id)(func(id uint64, spans []api.Span) bool {
		if over {
			t.Errorf("told %d behind where it was to stop", id)
		}
		l = append(l, api.Trace{Id: id, Spans: spans})
		over = len(l) == most
		return !over
	})
	return l
}

// expectEach expects these, and just these.
func expectEach(t testing.TB, st *store.Store, id uint64, want []api.Trace) {
	t.Helper()
	if l := each(t, st, id, -1); !sameTraces(l, want) {
		t.Errorf("Each(%d): %v; want %v", id, l, want)
	}
}

// fault is something that is wrong with an object, and what is told of it.
type fault struct {
	name string
	make func(t testing.TB, st *store.Store, name string)
	want api.Code
}

// faults are one of each kind.
func faults() []fault {
	as := func(b []byte) func(t testing.TB, st *store.Store, name string) {
		return func(t testing.TB, st *store.Store, name string) { put(t, st, name, b) }
	}
	return []fault{
		{"gone", drop, api.ErrNone},
		{"altered", func(t testing.TB, st *store.Store, name string) {
			if !st.Alter(name, 0, 1) {
				t.Fatal(name)
			}
		}, api.ErrSum},
		{"of no bytes", as(nil), api.ErrForm},
		{"too short for a sum", as([]byte{1, 2, 3}), api.ErrForm},
		{"sealed, of no bytes", as(sealed(nil)), api.ErrForm},
		{"of another form", as(sealed([]byte{255, 255, 255, 255, 9})), api.ErrForm},
	}
}

func TestOpenThatIsWrong(t *testing.T) { // P16.1
	for _, x := range faults() {
		st, _ := written(t, 9, rows(3, 0), small)
		x.make(t, st, name(9, "m"))
		expectNotOpened(t, st, 9, x.want)
	}
	st, m := written(t, 9, rows(3, 0), small)
	st.Fail(0)
	expectNotOpened(t, st, 9, api.ErrFail)
	opened(t, st, 9)
	// Another Id's meta, one that may not be, and another kind.
	put(t, st, name(8, "m"), metaBytes(m))
	expectNotOpened(t, st, 8, api.ErrForm)
	put(t, st, name(9, "m"), metaBytes(api.Meta{Id: 9, Pages: 0, Traces: 0}))
	expectNotOpened(t, st, 9, api.ErrForm)
	put(t, st, name(9, "m"), pageBytes(t, rows(3, 0)...))
	expectNotOpened(t, st, 9, api.ErrForm)
}

func TestOpenOfNoBlock(t *testing.T) { // P16.1, P16.3, the chapter's example
	st := empty(t)
	for _, id := range []uint64{0, 1, 9, math.MaxUint64} {
		expectNotOpened(t, st, id, api.ErrNone)
		expectEach(t, st, id, nil)
	}
	// Pages without a meta are none.
	st, _ = written(t, 9, rows(3, 0), small)
	drop(t, st, name(9, "m"))
	expectNotOpened(t, st, 9, api.ErrNone)
	expectEach(t, st, 9, nil)
}

func TestOpenOfNoStore(t *testing.T) { // P16.1, P16.3, P1
	for _, id := range []uint64{0, 1, 9, math.MaxUint64} {
		expectNotOpened(t, nil, id, api.ErrArg)
		expectEach(t, nil, id, nil)
	}
}

func TestOpenAsksTheMetaAlone(t *testing.T) { // P16.1
	l := rows(3, 0)
	st, _ := written(t, 9, l, small)
	for _, what := range []string{"p000", "p001", "p002", "i", "f"} {
		drop(t, st, name(9, what))
	}
	s := opened(t, st, 9)
	expectOver(t, st, s, api.ErrNone, 1)
}

func TestNext(t *testing.T) { // P16.1, P16.2
	for _, l := range samples() {
		for _, x := range sizes() {
			for _, id := range []uint64{1, 9, math.MaxUint64} {
				st, m := written(t, id, l, x)
				parts, err := page.Cut(l, x.Page)
				if err != nil || len(parts) != m.Pages {
					t.Fatal(err, m)
				}
				s := opened(t, st, id)
				for i, part := range parts {
					for k := range part {
						calls := 0
						if k == 0 {
							calls = 1
						}
						expectNext(t, st, s, part[k], calls, i == len(parts)-1 && k == len(part)-1)
					}
				}
				expectOver(t, st, s, nil, 0)
			}
		}
	}
}

func TestNextOfAsManyAsMayBe(t *testing.T) { // P16.2, P16.5
	l := rows(maxPages*maxTraces, 0)
	st, m := written(t, 9, l, wide)
	if m.Pages != maxPages {
		t.Fatal(m)
	}
	if got, err := all(st, 9); err != nil || !sameTraces(got, l) {
		t.Error(len(got), err)
	}
	expectEach(t, st, 9, l)
}

func TestNextAsksPagesAlone(t *testing.T) { // P16.2
	l := rows(3, 1)
	st, _ := written(t, 9, l, small)
	s := opened(t, st, 9)
	// What the meta told when it was opened counts.
	for _, what := range []string{"m", "f", "i"} {
		drop(t, st, name(9, what))
	}
	for i := range l {
		expectNext(t, st, s, l[i], 1, i == len(l)-1)
	}
	expectOver(t, st, s, nil, 0)
}

func TestAsManyPagesAsTheMetaTells(t *testing.T) { // P16.2
	l := rows(3, 1)
	st, _ := written(t, 9, l, small)
	put(t, st, pageName(9, 3), []byte{1})
	for n := 1; n <= 3; n++ {
		put(t, st, name(9, "m"), metaBytes(api.Meta{Id: 9, Pages: n, Traces: n}))
		if got, err := all(st, 9); err != nil || !sameTraces(got, l[:n]) {
			t.Error(got, err)
		}
		expectEach(t, st, 9, l[:n])
	}
	put(t, st, name(9, "m"), metaBytes(api.Meta{Id: 9, Pages: 4, Traces: 4}))
	if got, err := all(st, 9); err != error(api.ErrForm) || !sameTraces(got, l) {
		t.Error(got, err)
	}
	expectEach(t, st, 9, l)
	drop(t, st, pageName(9, 3))
	if got, err := all(st, 9); err != error(api.ErrNone) || !sameTraces(got, l) {
		t.Error(got, err)
	}
	expectEach(t, st, 9, l)
}

func TestMoreOrFewerTracesThanTheMetaTells(t *testing.T) { // P16.2
	// They end with the pages, however many the meta tells.
	l := rows(6, 1)
	for n := 3; n < 12; n++ {
		st := ofPages(t, n, l[:2], l[2:5], l[5:])
		if got, err := all(st, 9); err != nil || !sameTraces(got, l) {
			t.Errorf("%d: %v, %v", n, got, err)
		}
		expectEach(t, st, 9, l)
	}
}

func TestPagesOfNoTraces(t *testing.T) { // P16.1, P16.2
	// No writer makes such a block. Its pages are asked till one has a trace, and
	// that there is none behind is told once all pages were asked.
	l := rows(5, 1)
	st := ofPages(t, 6, nil, l[:3], nil, nil, l[3:], nil)
	s := opened(t, st, 9)
	expectNext(t, st, s, l[0], 2, false)
	expectNext(t, st, s, l[1], 0, false)
	expectNext(t, st, s, l[2], 0, false)
	expectNext(t, st, s, l[3], 3, false)
	expectNext(t, st, s, l[4], 0, false)
	expectOver(t, st, s, nil, 1)
	expectEach(t, st, 9, l)

	st = ofPages(t, 3, nil, nil, nil)
	expectOver(t, st, opened(t, st, 9), nil, 3)
	expectEach(t, st, 9, nil)

	st = ofPages(t, maxPages, make([][]api.Trace, maxPages)...)
	expectOver(t, st, opened(t, st, 9), nil, maxPages)

	st = ofPages(t, 3, l, nil, nil)
	drop(t, st, pageName(9, 2))
	s = opened(t, st, 9)
	for i := range l {
		calls := 0
		if i == 0 {
			calls = 1
		}
		expectNext(t, st, s, l[i], calls, false)
	}
	expectOver(t, st, s, api.ErrNone, 2)
}

func TestPageThatIsWrong(t *testing.T) { // P16.1, P16.2, P16.3
	l := rows(4, 1)
	for i := range l {
		for _, x := range faults() {
			st, _ := written(t, 9, l, small)
			was := had(t, st)[pageName(9, i)]
			x.make(t, st, pageName(9, i))
			expectEach(t, st, 9, l[:i])
			s := opened(t, st, 9)
			for k := range i {
				expectNext(t, st, s, l[k], 1, false)
			}
			expectOver(t, st, s, x.want, 1)
			// Also when it is mended: that error stays.
			put(t, st, pageName(9, i), []byte(was))
			expectOver(t, st, s, x.want, 0)
			expectEach(t, st, 9, l)
		}
	}
}

func TestPageIsReadWhenItsFirstTraceIsAskedFor(t *testing.T) { // P16.2
	l := rows(5, 1)
	st := ofPages(t, 5, l[:2], l[2:4], l[4:])
	s := opened(t, st, 9)
	expectNext(t, st, s, l[0], 1, false)
	// The page that was got is no longer asked, the next one is as it is by then.
	drop(t, st, pageName(9, 0))
	drop(t, st, pageName(9, 1))
	expectNext(t, st, s, l[1], 0, false)
	put(t, st, pageName(9, 1), pageBytes(t, row(7, 2, 2), row(8, 1, 1)))
	expectNext(t, st, s, row(7, 2, 2), 1, false)
	st.Alter(pageName(9, 1), 3, 3)
	expectNext(t, st, s, row(8, 1, 1), 0, false)
	st.Alter(pageName(9, 2), 3, 3)
	expectOver(t, st, s, api.ErrSum, 1)
}

func TestCallsThatFail(t *testing.T) { // P16.1, P16.2, P16.3
	l := rows(4, 1)
	st, _ := written(t, 9, l, small)
	for n := range l {
		s := opened(t, st, 9)
		st.Fail(n)
		for k := range n {
			expectNext(t, st, s, l[k], 1, false)
		}
		expectOver(t, st, s, api.ErrFail, 1)
		st.Fail(n + 1)
		expectEach(t, st, 9, l[:n])
	}
	st.Fail(0)
	expectEach(t, st, 9, nil)
	st.Fail(len(l) + 1)
	expectEach(t, st, 9, l)
	expectNotOpened(t, st, 9, api.ErrFail)
}

func TestTracesThatDontRise(t *testing.T) { // P16.2, P16.3
	a, b, c := row(3, 1, 0), row(7, 2, 1), row(8, 1, 2)
	for _, x := range []struct {
		pages [][]api.Trace
		told  int
	}{
		{[][]api.Trace{of(b), of(a)}, 1},
		{[][]api.Trace{of(a), of(a)}, 1},
		{[][]api.Trace{of(a, b), of(b, c)}, 2},
		{[][]api.Trace{of(b, c), of(a)}, 2},
		{[][]api.Trace{of(a, c), of(b)}, 2},
		{[][]api.Trace{of(a), of(b), of(b), of(c)}, 2},
		{[][]api.Trace{of(a), of(c), of(b)}, 2},
		{[][]api.Trace{of(b), of(), of(a)}, 1},
		{[][]api.Trace{of(b), of(), of(b, c)}, 1},
		{[][]api.Trace{of(c), of(a, b)}, 1},
		{[][]api.Trace{of(tr(7, sp(7, 0, 1, 2, ""))), of(tr(7, sp(7, 1, 1, 2, "")))}, 1},
		{[][]api.Trace{of(row(math.MaxUint64, 1, 0)), of(row(0, 1, 0))}, 1},
		{[][]api.Trace{of(row(0, 1, 0)), of(row(0, 1, 0))}, 1},
		{[][]api.Trace{of(row(1<<63, 1, 0)), of(row(1, 1, 0))}, 1},
	} {
		told := slices.Concat(x.pages...)
		st := ofPages(t, max(len(told), len(x.pages)), x.pages...)
		told = told[:x.told]
		expectEach(t, st, 9, told)
		s := opened(t, st, 9)
		for i := range told {
			if y, ok, err := s.Next(); err != nil || !ok || !sameTrace(y, told[i]) || s.Done() {
				t.Errorf("%v: %v, %t, %v", x.pages, y, ok, err)
			}
		}
		calls := 1
		if len(x.pages[1]) == 0 {
			calls = 2
		}
		expectOver(t, st, s, api.ErrForm, calls)
	}
}

func TestPagesErrorComesAheadOfItsTraces(t *testing.T) { // P16.2
	st := ofPages(t, 2, of(row(7, 1, 0)), of(row(3, 1, 0)))
	st.Alter(pageName(9, 1), 5, 1)
	s := opened(t, st, 9)
	expectNext(t, st, s, row(7, 1, 0), 1, false)
	expectOver(t, st, s, api.ErrSum, 1)
	// What would be wrong behind the first thing that is doesn't count.
	st = ofPages(t, 3, of(row(7, 1, 0)), of(row(3, 1, 0)), of(row(8, 1, 0)))
	drop(t, st, pageName(9, 2))
	s = opened(t, st, 9)
	expectNext(t, st, s, row(7, 1, 0), 1, false)
	expectOver(t, st, s, api.ErrForm, 1)
}

func TestScannersAreApart(t *testing.T) { // P16.2
	st := empty(t)
	var blocks [][]api.Trace
	var scanners []*scan.Scanner
	for id := uint64(1); id < 9; id++ {
		l := append(rows(int(id), 0), row(100, int(id), 1))
		if _, err := block.Write(st, id, 1, l, small); err != nil {
			t.Fatal(err)
		}
		blocks = append(blocks, l, l)
		scanners = append(scanners, opened(t, st, id), opened(t, st, id))
	}
	for i := range 9 {
		for k, s := range scanners {
			if i < len(blocks[k]) {
				expectNext(t, st, s, blocks[k][i], 1, i == len(blocks[k])-1)
			} else {
				expectOver(t, st, s, nil, 0)
			}
		}
	}
}

func TestEach(t *testing.T) { // P16.3
	for _, l := range samples() {
		for _, x := range sizes() {
			st, m := written(t, 9, l, x)
			was := st.Calls()
			expectEach(t, st, 9, l)
			if n := st.Calls() - was; n != 1+m.Pages {
				t.Errorf("%d calls for %d pages", n, m.Pages)
			}
			for most := 1; most <= min(len(l), 5); most++ {
				if got := each(t, st, 9, most); !sameTraces(got, l[:most]) {
					t.Errorf("%d: %v", most, got)
				}
			}
		}
	}
}

func TestEachStopsWhereItIsToldTo(t *testing.T) { // P16.3
	l := rows(5, 1)
	st, _ := written(t, 9, l, small)
	for most := 1; most <= len(l); most++ {
		was := st.Calls()
		n := 0
		for id, spans := range scan.Each(st, 9) {
			if id != l[n].Id || !sameSpans(spans, l[n].Spans) {
				t.Error(n, id, spans)
			}
			if n++; n == most {
				break
			}
		}
		// Nor is anything more asked of the store.
		if calls := st.Calls() - was; n != most || calls != 1+most {
			t.Errorf("%d: told %d, %d calls", most, n, calls)
		}
	}
}

func TestEachTellsWhatAScannerWouldBeginWith(t *testing.T) { // P16.3
	l := rows(3, 1)
	st := empty(t)
	seq := scan.Each(st, 9)
	if st.Calls() != 0 {
		t.Errorf("%d calls", st.Calls())
	}
	// It is gone through as the store is by then, and each time from the first.
	for range seq {
		t.Error("told of no block")
	}
	if _, err := block.Write(st, 9, 1, l, small); err != nil {
		t.Fatal(err)
	}
	for range 3 {
		for range seq {
			break
		}
		var got []api.Trace
		for id, spans := range seq {
			got = append(got, api.Trace{Id: id, Spans: spans})
		}
		if !sameTraces(got, l) {
			t.Error(got)
		}
	}
	// And one within another.
	n := 0
	for range seq {
		for range seq {
			n++
		}
	}
	if n != len(l)*len(l) {
		t.Error(n)
	}
}

func TestScanningChangesNothing(t *testing.T) { // R2
	for _, l := range samples() {
		st, _ := written(t, 9, l, middle)
		st.Alter(pageName(9, 0), 1, 1)
		for range 2 {
			was := had(t, st)
			for _, n := range []int{-1, 0, 1, 2, 3} {
				for _, id := range []uint64{9, 10} {
					st.Fail(n)
					all(st, id)
					st.Fail(n)
					each(t, st, id, -1)
					each(t, st, id, 1)
				}
			}
			is := had(t, st)
			if len(is) != len(was) {
				t.Error("other names")
			}
			for name, b := range was {
				if is[name] != b {
					t.Errorf("%s changed", name)
				}
			}
			st.Alter(pageName(9, 0), 1, 1)
		}
	}
}

// scribble alters all of the spans' memory, up to their capacities, by which two
// lists might run into each other.
func scribble(l []api.Span) {
	for i := range l {
		d := l[i].Data[:cap(l[i].Data)]
		for k := range d {
			d[k] ^= 255
		}
	}
	l = l[:cap(l)]
	for i := range l {
		l[i].Trace, l[i].Id, l[i].End = l[i].Trace+1, l[i].Id+5, l[i].End+1
	}
}

func TestAnswersAreNewMemory(t *testing.T) { // P16.4
	for _, l := range samples() {
		for _, x := range sizes() {
			st, _ := written(t, 9, l, x)
			// Traces told by then, and those that are told later, stay as they are.
			s, other := opened(t, st, 9), opened(t, st, 9)
			var told []api.Trace
			for i := range l {
				got, ok, err := s.Next()
				kept, _, _ := other.Next()
				if err != nil || !ok || !sameTrace(got, l[i]) {
					t.Fatalf("%v, %t, %v", got, ok, err)
				}
				scribble(got.Spans)
				told = append(told, kept)
			}
			if !sameTraces(told, l) {
				t.Fatal("two scanners share memory")
			}
			for i := range told {
				scribble(told[i].Spans)
				if !sameTraces(told[i+1:], l[i+1:]) {
					t.Fatalf("%d shares memory with one behind it", i)
				}
			}
			n := 0
			for id, spans := range scan.Each(st, 9) {
				if !sameTrace(api.Trace{Id: id, Spans: spans}, l[n]) {
					t.Fatalf("%d: %v", id, spans)
				}
				scribble(spans)
				n++
			}
			expectEach(t, st, 9, l)
		}
	}
}

// expectAsAll expects that a scanner, and Each, tell what read.All tells at once;
// of what All tells an error of they tell the beginning of the traces l, and a
// scanner that error.
func expectAsAll(t testing.TB, st *store.Store, id uint64, l []api.Trace, at string) {
	t.Helper()
	want, wrong := read.All(st, id)
	got, err := all(st, id)
	if err != wrong {
		t.Errorf("%s: %v; want %v", at, err, wrong)
	}
	if wrong == nil && !sameTraces(got, want) || len(got) > len(l) || !sameTraces(got, l[:len(got)]) {
		t.Errorf("%s: %v; want %v", at, got, want)
	}
	if other := each(t, st, id, -1); !sameTraces(other, got) {
		t.Errorf("%s: Each: %v; want %v", at, other, got)
	}
}

func TestScanTellsWhatAllTells(t *testing.T) { // P16.5
	for _, l := range samples() {
		for _, x := range sizes() {
			st, _ := written(t, 9, l, x)
			expectAsAll(t, st, 9, l, "whole")
			if got, err := all(st, 9); err != nil || !sameTraces(got, l) {
				t.Errorf("%v, %v; want %v", got, err, l)
			}
		}
	}
}

func TestWhatWasAlteredIsNotTold(t *testing.T) { // P16.5, T5
	l := []api.Trace{row(3, 1, 1), row(7, 2, 0), row(8, 1, 0)}
	st, _ := written(t, 9, l, api.Sizes{Page: 110, Shards: 2, Bits: 16, Hashes: 1})
	for object, b := range had(t, st) {
		for at := range len(b) {
			for _, x := range []byte{1, 2, 4, 8, 16, 32, 64, 128, 255, byte(at)*2 + 1} {
				st.Alter(object, at, x)
				expectAsAll(t, st, 9, l, fmt.Sprintf("%s, %d, %d", object, at, x))
				st.Alter(object, at, x)
			}
		}
	}
}

// anyTraces are canonical traces, one at least.
func anyTraces(r *rand.Rand) []api.Trace {
	var l []api.Trace
	id := r.Uint64() >> (1 + r.Intn(63))
	for range 1 + r.Intn(30) {
		t := row(id, 1+r.Intn(12), r.Intn(maxData+1))
		for i := range t.Spans {
			t.Spans[i].End += int64(r.Intn(1000))
		}
		l = append(l, t)
		id += uint64(1 + r.Intn(1<<r.Intn(30)))
	}
	return l
}

func TestScanOfAny(t *testing.T) { // P16.2, P16.3, P16.5
	r := rand.New(rand.NewSource(16))
	for range 1000 {
		l := anyTraces(r)
		x := api.Sizes{Page: 64 + r.Intn(1<<(6+r.Intn(7))), Shards: 1 + r.Intn(16), Bits: 8 * (1 + r.Intn(20)), Hashes: 1 + r.Intn(8)}
		id := 1 + r.Uint64()>>(1+r.Intn(63))
		st, m := written(t, id, l, x)
		expectAsAll(t, st, id, l, "whole")
		most := 1 + r.Intn(len(l))
		if got := each(t, st, id, most); !sameTraces(got, l[:most]) {
			t.Errorf("%d: %v", most, got)
		}
		// One object amiss.
		names, _ := st.List("")
		y := faults()[r.Intn(len(faults()))]
		object := names[r.Intn(len(names))]
		y.make(t, st, object)
		expectAsAll(t, st, id, l, object+" "+y.name)
		// A page in a later one's place doesn't rise.
		if a, b := r.Intn(m.Pages), r.Intn(m.Pages); a < b {
			st, _ = written(t, id, l, x)
			was := had(t, st)
			put(t, st, pageName(id, b), []byte(was[pageName(id, a)]))
			if got, err := all(st, id); err != error(api.ErrForm) || !sameTraces(got, l[:len(got)]) || len(got) == len(l) {
				t.Errorf("%v, %v", got, err)
			}
		}
	}
}

// model are the traces of so many pages, of which bytes are there sealed, one
// behind the other, up to the first thing that is amiss, and what that is; the call
// behind so many fails (below 0: none does).
func model(pages, well int, there ...[]byte) ([]api.Trace, error) {
	var want []api.Trace
	for i := range pages {
		if i == well {
			return want, api.ErrFail
		}
		if i >= len(there) {
			return want, api.ErrNone
		}
		l, err := page.Get(sealed(there[i]))
		if err != nil {
			return want, err
		}
		for _, x := range l {
			if len(want) > 0 && want[len(want)-1].Id >= x.Id {
				return want, api.ErrForm
			}
			want = append(want, x)
		}
	}
	return want, nil
}

// FuzzScan scans whatever is sealed: what the pages' own layer reads of them.
func FuzzScan(f *testing.F) { // P16.1 to P16.3, P1
	open := func(b []byte) []byte { return b[:len(b)-4] }
	a, b := row(3, 1, 1), row(7, 2, 0)
	two := open(metaBytes(api.Meta{Id: 9, Pages: 2, Traces: 2}))
	f.Add(two, open(pageBytes(f, a)), open(pageBytes(f, b)), uint64(9), 1)
	f.Add(two, open(pageBytes(f, b)), open(pageBytes(f, a)), uint64(9), 2)
	f.Add(two, open(pageBytes(f, a, b)), open(pageBytes(f)), uint64(9), 3)
	f.Add(two, open(pageBytes(f)), open(pageBytes(f, a, b)), uint64(8), 0)
	f.Add(open(metaBytes(api.Meta{Id: 7, Pages: 3, Traces: 3})), []byte{0, 0}, []byte{}, uint64(7), -1)
	f.Fuzz(func(t *testing.T, m, p0, p1 []byte, id uint64, well int) {
		st := empty(t)
		put(t, st, name(id, "m"), sealed(m))
		put(t, st, pageName(id, 0), sealed(p0))
		put(t, st, pageName(id, 1), sealed(p1))
		told, err := read.Meta(st, id)
		if err != nil {
			s, is := scan.Open(st, id)
			if s != nil || is != err || len(each(t, st, id, -1)) != 0 {
				t.Errorf("Open: %v, %v; want %v", s, is, err)
			}
			return
		}
		s := opened(t, st, id)
		want, wrong := model(told.Pages, well, p0, p1)
		st.Fail(well)
		for i := range want {
			if x, ok, err := s.Next(); err != nil || !ok || !sameTrace(x, want[i]) {
				t.Errorf("%v, %t, %v; want %v", x, ok, err, want[i])
			}
		}
		for range 3 {
			if x, ok, err := s.Next(); err != wrong || ok || x.Id != 0 || len(x.Spans) != 0 || !s.Done() {
				t.Errorf("%v, %t, %v; want %v", x, ok, err, wrong)
			}
		}
		st.Fail(-1)
		want, _ = model(told.Pages, -1, p0, p1)
		expectEach(t, st, id, want)
	})
}
