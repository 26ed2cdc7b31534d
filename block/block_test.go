package block_test

import (
	"bytes"
	"encoding/binary"
	"fmt"
	"hash/crc32"
	"math"
	"math/rand"
	"slices"
	"testing"

	"tankard/api"
	"tankard/block"
	"tankard/bloom"
	"tankard/index"
	"tankard/meta"
	"tankard/page"
	"tankard/store"
)

const (
	maxTime   = 1 << 40
	maxData   = 64
	maxSpans  = 100
	maxTraces = 64
	maxPage   = 8192
	maxPages  = 200
	maxLevel  = 10
	maxRoom   = 1 << 20

	// Bytes of a page beside its traces', and of a trace of one span without Data.
	pageFrame = 2 + 4
	least     = 8 + 4 + 2 + 34
)

// small are sizes by which each trace, of the least bytes, has a page of its own.
var small = api.Sizes{Page: 64, Shards: 1, Bits: 64, Hashes: 2}

// wide are sizes by which pages are as large as may be.
var wide = api.Sizes{Page: maxPage, Shards: 16, Bits: 4096, Hashes: 8}

func sp(trace, id uint64, start, end int64, data string) api.Span {
	s := api.Span{Trace: trace, Id: id, Start: start, End: end}
	if data != "" {
		s.Data = []byte(data)
	}
	return s
}

func tr(id uint64, l ...api.Span) api.Trace { return api.Trace{Id: id, Spans: l} }

// row is a trace of n spans, each with so much Data.
func row(id uint64, n, data int) api.Trace {
	t := api.Trace{Id: id}
	for i := range n {
		s := sp(id, uint64(i), int64(i/3)+5, int64(i)+7, "")
		for j := range data {
			s.Data = append(s.Data, byte(int(id)+i*5+j))
		}
		t.Spans = append(t.Spans, s)
	}
	return t
}

// rows are n traces of one span each.
func rows(n, data int) []api.Trace {
	var l []api.Trace
	for i := range n {
		l = append(l, row(uint64(i)*3, 1, data))
	}
	return l
}

// fair are sizes that may be, at each bound.
func fair() []api.Sizes {
	return []api.Sizes{
		small,
		wide,
		{Page: 64, Shards: 1, Bits: 8, Hashes: 1},
		{Page: 65, Shards: 16, Bits: 8, Hashes: 8},
		{Page: maxPage - 1, Shards: 2, Bits: 4088, Hashes: 7},
		{Page: 500, Shards: 15, Bits: 16, Hashes: 3},
	}
}

// unfair are sizes that may not be, each by one thing alone.
func unfair() []api.Sizes {
	var l []api.Sizes
	but := func(change func(s *api.Sizes, n int), to ...int) {
		for _, n := range append(to, -1, math.MinInt, math.MaxInt) {
			s := api.Sizes{Page: 500, Shards: 2, Bits: 64, Hashes: 3}
			change(&s, n)
			l = append(l, s)
		}
	}
	but(func(s *api.Sizes, n int) { s.Page = n }, 0, 1, 63, maxPage+1, 2*maxPage, 1<<32+64)
	but(func(s *api.Sizes, n int) { s.Shards = n }, 0, 17, 256, 257)
	but(func(s *api.Sizes, n int) { s.Bits = n }, 0, 1, 7, 9, 60, 4095, 4097, 4104, 65536, 65544)
	but(func(s *api.Sizes, n int) { s.Hashes = n }, 0, 9, 256, 257)
	return append(l, api.Sizes{})
}

// samples are traces of a block: ordinary ones, and at the bounds.
func samples() [][]api.Trace {
	full := string(bytes.Repeat([]byte{255}, maxData))
	return [][]api.Trace{
		{tr(0, sp(0, 0, 0, 0, ""))},
		{tr(7, sp(7, 1, 3, 9, "x"))},
		{tr(5, sp(5, 4, maxTime, maxTime, ""))},
		// The least Start and the greatest End of one span that stands at the
		// beginning, in the midst, and behind; and of two.
		{tr(3, sp(3, 1, 0, 90, "a"), sp(3, 2, 4, 5, "b")), tr(4, sp(4, 1, 1, 80, ""))},
		{tr(3, sp(3, 1, 7, 20, "a")), tr(4, sp(4, 1, 2, 80, ""), sp(4, 2, 3, 6, "")), tr(5, sp(5, 1, 7, 8, ""))},
		{tr(3, sp(3, 1, 7, 20, "a")), tr(4, sp(4, 1, 8, 9, "")), tr(5, sp(5, 1, 6, 6, ""), sp(5, 2, 7, 21, ""))},
		{tr(3, sp(3, 1, 7, 20, "a"), sp(3, 2, 8, 50, "")), tr(4, sp(4, 1, 1, 9, "")), tr(9, sp(9, 9, 4, 6, ""))},
		{tr(0, sp(0, 0, 0, maxTime, full)), tr(math.MaxUint64, sp(math.MaxUint64, math.MaxUint64, maxTime, maxTime, full))},
		{row(1, 3, 2), row(2, 1, 0), row(3, 7, 64), row(9, 2, 1)},
		{row(5, maxSpans, maxData), row(1<<63, maxSpans, 0)},
		rows(maxTraces, 0),
		rows(maxTraces+1, 0),
		rows(maxPages, 0),
	}
}

// wrong are lists that no block has.
func wrong() [][]api.Trace {
	bad := func(alter func(s *api.Span)) []api.Trace {
		t := row(5, 3, 2)
		alter(&t.Spans[1])
		return []api.Trace{row(3, 1, 0), t}
	}
	return [][]api.Trace{
		nil,
		{},
		{tr(5)},
		{row(3, 1, 0), tr(5)},
		{row(7, 1, 0), row(3, 1, 0)},
		{row(7, 1, 0), row(7, 1, 0)},
		{row(7, maxSpans+1, 0)},
		{tr(7, sp(8, 1, 3, 9, "x"))},
		{tr(7, sp(7, 1, 5, 9, "x"), sp(7, 2, 4, 9, "x"))},
		{tr(7, sp(7, 1, 5, 9, "x"), sp(7, 1, 6, 9, "x"))},
		bad(func(s *api.Span) { s.Start = -1 }),
		bad(func(s *api.Span) { s.End = s.Start - 1 }),
		bad(func(s *api.Span) { s.End = maxTime + 1 }),
		bad(func(s *api.Span) { s.Data = make([]byte, maxData+1) }),
		// Too many pages, too: what may not be comes first.
		append(rows(maxPages+1, 0), row(0, 1, 0)),
	}
}

func sealed(b []byte) []byte {
	return binary.BigEndian.AppendUint32(bytes.Clone(b), crc32.ChecksumIEEE(b))
}

func count(n int) []byte { return []byte{byte(n >> 8), byte(n)} }

// traceBytes is a trace's bytes in a page, as chapters 3 and 5 say.
func traceBytes(t api.Trace) []byte {
	spans := count(len(t.Spans))
	for _, s := range t.Spans {
		for _, n := range []uint64{s.Trace, s.Id, uint64(s.Start), uint64(s.End)} {
			spans = binary.BigEndian.AppendUint64(spans, n)
		}
		spans = append(spans, count(len(s.Data))...)
		spans = append(spans, s.Data...)
	}
	b := binary.BigEndian.AppendUint64(nil, t.Id)
	b = binary.BigEndian.AppendUint32(b, uint32(len(spans)))
	return append(b, spans...)
}

// parts are the pages' traces, as chapter 5 says.
func parts(l []api.Trace, most int) [][]api.Trace {
	var out [][]api.Trace
	for len(l) > 0 {
		n, size := 1, pageFrame+len(traceBytes(l[0]))
		for n < len(l) && n < maxTraces && size+len(traceBytes(l[n])) <= most {
			size += len(traceBytes(l[n]))
			n++
		}
		out, l = append(out, l[:n]), l[n:]
	}
	return out
}

// filterBytes is the bytes of a filter of these, as chapter 11 says.
func filterBytes(l []api.Trace, s api.Sizes) []byte {
	set := make([]byte, s.Shards*s.Bits/8)
	for _, t := range l {
		id := binary.BigEndian.AppendUint64(nil, t.Id)
		a := int64(crc32.ChecksumIEEE(id))
		b := int64(crc32.ChecksumIEEE(append(id, 1)))
		for i := range s.Hashes {
			at := int(t.Id%uint64(s.Shards))*s.Bits + int((a+int64(i)*b)%int64(s.Bits))
			set[at/8] |= 1 << (at % 8)
		}
	}
	head := []byte{byte(s.Shards), byte(s.Hashes), byte(s.Bits >> 8), byte(s.Bits)}
	return sealed(append(head, set...))
}

// wantMeta is what is told of a block.
func wantMeta(id uint64, level int, l []api.Trace, s api.Sizes) api.Meta {
	m := api.Meta{Id: id, Level: level, Start: math.MaxInt64, End: -1, Pages: len(parts(l, s.Page)), Traces: len(l)}
	for _, t := range l {
		for _, x := range t.Spans {
			if x.Start < m.Start {
				m.Start = x.Start
			}
			if x.End > m.End {
				m.End = x.End
			}
		}
	}
	return m
}

// wantObjects are a block's objects, as the chapters say, byte by byte.
func wantObjects(id uint64, level int, l []api.Trace, s api.Sizes) []block.Object {
	var out []block.Object
	add := func(what string, b []byte) {
		out = append(out, block.Object{Name: fmt.Sprintf("b/%016x/%s", id, what), B: sealed(b)})
	}
	all := parts(l, s.Page)
	firsts := count(len(all))
	for i, its := range all {
		b := count(len(its))
		for _, t := range its {
			b = append(b, traceBytes(t)...)
		}
		add(fmt.Sprintf("p%03d", i), b)
		firsts = binary.BigEndian.AppendUint64(firsts, its[0].Id)
	}
	add("i", firsts)
	f := filterBytes(l, s)
	add("f", f[:len(f)-4])
	m := wantMeta(id, level, l, s)
	told := binary.BigEndian.AppendUint64(nil, m.Id)
	told = binary.BigEndian.AppendUint64(told, uint64(m.Start))
	told = binary.BigEndian.AppendUint64(told, uint64(m.End))
	told = append(told, byte(m.Level))
	told = binary.BigEndian.AppendUint16(told, uint16(m.Pages))
	add("m", binary.BigEndian.AppendUint32(told, uint32(m.Traces)))
	return out
}

func sameObjects(a, b []block.Object) bool {
	return slices.EqualFunc(a, b, func(a, b block.Object) bool { return a.Name == b.Name && bytes.Equal(a.B, b.B) })
}

func sameTraces(a, b []api.Trace) bool {
	return slices.EqualFunc(a, b, func(a, b api.Trace) bool {
		return a.Id == b.Id && slices.EqualFunc(a.Spans, b.Spans, func(a, b api.Span) bool {
			return a.Trace == b.Trace && a.Id == b.Id && a.Start == b.Start && a.End == b.End && bytes.Equal(a.Data, b.Data)
		})
	})
}

// copied are traces with memory of their own.
func copied(l []api.Trace) []api.Trace {
	l = slices.Clone(l)
	for i := range l {
		l[i].Spans = slices.Clone(l[i].Spans)
		for j, s := range l[i].Spans {
			l[i].Spans[j].Data = bytes.Clone(s.Data)
		}
	}
	return l
}

func empty(t testing.TB, room int) *store.Store {
	t.Helper()
	st, err := store.New(room)
	if err != nil {
		t.Fatal(err)
	}
	return st
}

// had are all objects of a store, by their names.
func had(t testing.TB, st *store.Store) []block.Object {
	t.Helper()
	names, err := st.List("")
	if err != nil {
		t.Fatal(err)
	}
	var out []block.Object
	for _, name := range names {
		b, err := st.Get(name)
		if err != nil {
			t.Fatal(err)
		}
		out = append(out, block.Object{Name: name, B: b})
	}
	return out
}

func byName(l []block.Object) []block.Object {
	return slices.SortedFunc(slices.Values(l), func(a, b block.Object) int { return bytes.Compare([]byte(a.Name), []byte(b.Name)) })
}

func expectMade(t testing.TB, id uint64, level int, l []api.Trace, s api.Sizes) {
	t.Helper()
	o, m, err := block.Make(id, level, l, s)
	if err != nil {
		t.Fatalf("Make(%d, %d, %d traces, %v): %v", id, level, len(l), s, err)
	}
	if want := wantMeta(id, level, l, s); m != want {
		t.Errorf("Make(%d, %d, %v, %v): %v; want %v", id, level, l, s, m, want)
	}
	if want := wantObjects(id, level, l, s); !sameObjects(o, want) {
		t.Errorf("Make(%d, %d, %v, %v): %v; want %v", id, level, l, s, o, want)
	}
}

// expectNoBlock expects that error of Make, and of Write, which puts nothing then.
func expectNoBlock(t testing.TB, id uint64, level int, l []api.Trace, s api.Sizes, want api.Code) {
	t.Helper()
	o, m, err := block.Make(id, level, l, s)
	if err != error(want) || len(o) != 0 || m != (api.Meta{}) {
		t.Errorf("Make(%d, %d, %d traces, %v): %d objects, %v, %v; want %v", id, level, len(l), s, len(o), m, err, want)
	}
	st := empty(t, maxRoom)
	st.Fail(0)
	m, err = block.Write(st, id, level, l, s)
	if err != error(want) || m != (api.Meta{}) || st.Calls() != 0 {
		t.Errorf("Write(%d, %d, %d traces, %v): %v, %v, %d calls; want %v", id, level, len(l), s, m, err, st.Calls(), want)
	}
}

func TestMay(t *testing.T) { // P14.1
	for _, s := range fair() {
		if !block.May(s) {
			t.Errorf("%v may not be", s)
		}
	}
	for _, s := range unfair() {
		if block.May(s) {
			t.Errorf("%v may be", s)
		}
	}
	for page := -100; page < maxPage+100; page++ {
		s := small
		s.Page = page
		if block.May(s) != (page >= 64 && page <= maxPage) {
			t.Errorf("pages of %d bytes: %t", page, block.May(s))
		}
	}
}

func TestMayOfFiltersIsThatOfTheirLayer(t *testing.T) { // P14.1
	for shards := -1; shards < 19; shards++ {
		for hashes := -1; hashes < 11; hashes++ {
			for _, bits := range []int{-8, 0, 7, 8, 9, 12, 16, 4088, 4096, 4100, 4104} {
				_, err := bloom.New(shards, bits, hashes)
				if s := (api.Sizes{Page: 64, Shards: shards, Bits: bits, Hashes: hashes}); block.May(s) != (err == nil) {
					t.Errorf("May(%v): %t", s, block.May(s))
				}
			}
		}
	}
}

func TestMake(t *testing.T) { // P14.1
	for _, l := range samples() {
		for _, s := range fair() {
			if len(parts(l, s.Page)) > maxPages {
				t.Fatalf("%d pages", len(parts(l, s.Page)))
			}
			expectMade(t, 9, 1, l, s)
		}
	}
}

func TestMakeOfEachLevelAndOfAnyId(t *testing.T) { // P14.1
	l := []api.Trace{row(3, 2, 1), row(7, 1, 0)}
	for level := range maxLevel + 1 {
		expectMade(t, 9, level, l, small)
	}
	for _, id := range []uint64{1, 2, 255, 1 << 32, 1<<63 - 1, 1 << 63, 0x0123456789abcdef, math.MaxUint64} {
		expectMade(t, id, 0, l, small)
	}
}

func TestMakeOfOneTrace(t *testing.T) { // P14.1, the chapter's example
	o, m, err := block.Make(9, 1, []api.Trace{tr(3, sp(3, 1, 2, 5, "ab"))}, small)
	if err != nil || m != (api.Meta{Id: 9, Level: 1, Start: 2, End: 5, Pages: 1, Traces: 1}) {
		t.Fatal(m, err)
	}
	var names []string
	for _, x := range o {
		names = append(names, x.Name)
	}
	want := []string{"b/0000000000000009/p000", "b/0000000000000009/i", "b/0000000000000009/f", "b/0000000000000009/m"}
	if !slices.Equal(names, want) {
		t.Error(names)
	}
}

func TestMakePutsPagesInOrder(t *testing.T) { // P14.1
	// From ten pages on an order of texts without zeros would be another one, and
	// so would that of names, as f and i stand ahead of p.
	o, _, err := block.Make(1, 0, rows(120, 0), small)
	if err != nil || len(o) != 123 {
		t.Fatal(len(o), err)
	}
	for i := range 120 {
		l, err := page.Get(o[i].B)
		if o[i].Name != fmt.Sprintf("b/0000000000000001/p%03d", i) || err != nil || len(l) != 1 || l[0].Id != uint64(i)*3 {
			t.Error(o[i], l, err)
		}
	}
}

func TestMakeCutsAtThePagesSize(t *testing.T) { // P14.1
	for _, x := range []struct{ most, pages int }{
		{pageFrame + 3*least - 1, 4}, // of 2, 2, 2 and 1
		{pageFrame + 3*least, 3},     // of 3, 3 and 1
		{pageFrame + 3*least + 1, 3},
	} {
		s := small
		s.Page = x.most
		expectMade(t, 1, 0, rows(7, 0), s)
		if _, m, err := block.Make(1, 0, rows(7, 0), s); err != nil || m.Pages != x.pages {
			t.Error(x, m, err)
		}
	}
	// A trace of more bytes than a page should have has one of its own.
	o, m, err := block.Make(1, 0, []api.Trace{row(1, 1, 0), row(2, maxSpans, maxData), row(3, 1, 0)}, wide)
	if err != nil || m.Pages != 3 || len(o[1].B) <= maxPage {
		t.Error(m, err)
	}
}

func TestMakeOfTooManyPages(t *testing.T) { // P14.1
	expectMade(t, 9, 1, rows(maxPages, 0), small)
	expectNoBlock(t, 9, 1, rows(maxPages+1, 0), small, api.ErrLarge)
	expectNoBlock(t, 9, 1, rows(2*maxPages, 3), small, api.ErrLarge)
	// Of as many traces as go into as many pages, and of one more.
	expectMade(t, 9, 1, rows(maxPages*maxTraces, 0), wide)
	expectNoBlock(t, 9, 1, rows(maxPages*maxTraces+1, 0), wide, api.ErrLarge)
	expectNoBlock(t, 9, 1, rows(65536+5, 0), small, api.ErrLarge)
}

func TestMakeOfWhatMayNotBe(t *testing.T) { // P14.1
	l := rows(3, 0)
	for _, s := range unfair() {
		expectNoBlock(t, 9, 1, l, s, api.ErrArg)
	}
	for _, l := range wrong() {
		expectNoBlock(t, 9, 1, l, small, api.ErrArg)
	}
	expectNoBlock(t, 0, 1, l, small, api.ErrArg)
	for _, level := range []int{-1, maxLevel + 1, 255, 256, 257, 1 << 32, math.MinInt, math.MaxInt} {
		expectNoBlock(t, 9, level, l, small, api.ErrArg)
	}
}

func TestMakeTellsWhatMayNotBeAheadOfTooManyPages(t *testing.T) { // P14.1
	l := rows(maxPages+1, 0)
	expectNoBlock(t, 0, 1, l, small, api.ErrArg)
	expectNoBlock(t, 9, -1, l, small, api.ErrArg)
	expectNoBlock(t, 9, maxLevel+1, l, small, api.ErrArg)
	expectNoBlock(t, 9, 1, l, api.Sizes{Page: 64, Shards: 1, Bits: 63, Hashes: 2}, api.ErrArg)
}

func TestWrite(t *testing.T) { // P14.2
	for _, l := range samples() {
		for _, s := range []api.Sizes{small, wide} {
			st := empty(t, maxRoom)
			m, err := block.Write(st, 9, 1, l, s)
			if err != nil || m != wantMeta(9, 1, l, s) {
				t.Errorf("Write(%v, %v): %v, %v", l, s, m, err)
			}
			want := wantObjects(9, 1, l, s)
			if st.Calls() != len(want) {
				t.Errorf("Write(%v, %v): %d calls", l, s, st.Calls())
			}
			if got := had(t, st); !sameObjects(got, byName(want)) {
				t.Errorf("Write(%v, %v): %v; want %v", l, s, got, want)
			}
		}
	}
}

func TestWriteToNoStore(t *testing.T) { // P14.2
	for _, l := range [][]api.Trace{rows(3, 0), nil, rows(maxPages+1, 0)} {
		if m, err := block.Write(nil, 9, 1, l, small); err != error(api.ErrArg) || m != (api.Meta{}) {
			t.Error(m, err)
		}
	}
}

func TestWriteUpToAPutThatFails(t *testing.T) { // P14.2, P14.4
	l := rows(5, 1)
	want := wantObjects(9, 1, l, small)
	for n := range len(want) {
		st := empty(t, maxRoom)
		st.Fail(n)
		m, err := block.Write(st, 9, 1, l, small)
		if err != error(api.ErrFail) || m != (api.Meta{}) || st.Calls() != n+1 {
			t.Errorf("%d: %v, %v, %d calls", n, m, err, st.Calls())
		}
		if got := had(t, st); !sameObjects(got, byName(want[:n])) {
			t.Errorf("%d: %v", n, got)
		}
		// Anew, all is put again, and the block is there.
		if m, err := block.Write(st, 9, 1, l, small); err != nil || m != wantMeta(9, 1, l, small) {
			t.Errorf("%d: %v, %v", n, m, err)
		}
		if got := had(t, st); !sameObjects(got, byName(want)) {
			t.Errorf("%d: %v", n, got)
		}
	}
	st := empty(t, maxRoom)
	st.Fail(len(want))
	if _, err := block.Write(st, 9, 1, l, small); err != nil {
		t.Error(err)
	}
	if _, err := st.Get(want[0].Name); err != error(api.ErrFail) {
		t.Error(err)
	}
}

func TestWriteUpToAPutWithoutRoom(t *testing.T) { // P14.2, P14.4
	l := rows(4, 2)
	want := wantObjects(9, 1, l, small)
	room := 0
	for n, o := range want {
		room += len(o.B)
		st := empty(t, room-1)
		if m, err := block.Write(st, 9, 1, l, small); err != error(api.ErrFull) || m != (api.Meta{}) || st.Calls() != n+1 {
			t.Errorf("%d: %v, %v, %d calls", n, m, err, st.Calls())
		}
		if got := had(t, st); !sameObjects(got, byName(want[:n])) {
			t.Errorf("%d: %v", n, got)
		}
	}
	if _, err := block.Write(empty(t, room), 9, 1, l, small); err != nil {
		t.Error(err)
	}
}

func TestWriteLeavesOtherObjects(t *testing.T) { // P14.2
	st := empty(t, maxRoom)
	if err := st.Put("a", []byte("other")); err != nil {
		t.Fatal(err)
	}
	for _, id := range []uint64{9, 10} {
		if _, err := block.Write(st, id, 1, rows(3, 0), small); err != nil {
			t.Fatal(err)
		}
	}
	want := []block.Object{{Name: "a", B: []byte("other")}}
	for _, id := range []uint64{9, 10} {
		want = append(want, byName(wantObjects(id, 1, rows(3, 0), small))...)
	}
	if got := had(t, st); !sameObjects(got, want) {
		t.Error(got)
	}
}

func TestArgumentsStayAsTheyAre(t *testing.T) { // P14.3
	for _, l := range append(samples(), wrong()...) {
		was := copied(l)
		block.Make(9, 1, l, small)
		block.Write(empty(t, maxRoom), 9, 1, l, small)
		if !sameTraces(l, was) {
			t.Errorf("%v became %v", was, l)
		}
	}
}

// scribble alters all of the traces' memory.
func scribble(l []api.Trace) {
	for i := range l {
		for j := range l[i].Spans {
			s := &l[i].Spans[j]
			for k := range s.Data {
				s.Data[k]++
			}
			s.Id, s.End = s.Id+5, s.End+1
		}
		l[i].Id++
	}
}

func TestArgumentsArentKept(t *testing.T) { // P14.3
	for _, l := range samples() {
		was, mine := copied(l), copied(l)
		st := empty(t, maxRoom)
		if _, err := block.Write(st, 9, 1, mine, small); err != nil {
			t.Fatal(err)
		}
		o, _, err := block.Make(9, 1, mine, small)
		if err != nil {
			t.Fatal(err)
		}
		scribble(mine)
		want := wantObjects(9, 1, was, small)
		if !sameObjects(o, want) || !sameObjects(had(t, st), byName(want)) {
			t.Errorf("%v changed with its traces", was)
		}
	}
}

func TestAnswersAreNewMemory(t *testing.T) { // P14.3
	for _, l := range samples() {
		was := copied(l)
		want := wantObjects(9, 1, l, small)
		a, _, _ := block.Make(9, 1, l, small)
		b, _, _ := block.Make(9, 1, l, small)
		for i := range a {
			// Up to their capacities, by which two lists might run into each other.
			x := a[i].B[:cap(a[i].B)]
			for j := range x {
				x[j] ^= 255
			}
			a[i].Name = ""
			if i+1 < len(a) && !bytes.Equal(a[i+1].B, want[i+1].B) {
				t.Errorf("%d shares memory with the next one", i)
			}
		}
		if !sameObjects(b, want) || !sameTraces(l, was) {
			t.Errorf("%v shares memory", was)
		}
	}
}

// expectWhole expects that all of a block is there, as its meta tells.
func expectWhole(t testing.TB, st *store.Store, id uint64, l []api.Trace) {
	t.Helper()
	get := func(what string, n int) []byte {
		b, err := st.Get(meta.Name(id, what, n))
		if err != nil {
			t.Errorf("%s %d: %v", what, n, err)
		}
		return b
	}
	m, err := meta.Get(get("m", 0))
	if err != nil || m.Id != id || m.Traces != len(l) {
		t.Fatalf("%v, %v", m, err)
	}
	firsts, err := index.Get(get("i", 0))
	if err != nil || len(firsts) != m.Pages {
		t.Fatalf("%v, %v", firsts, err)
	}
	f, err := bloom.Get(get("f", 0))
	if err != nil {
		t.Fatal(err)
	}
	var all []api.Trace
	for n := range m.Pages {
		its, err := page.Get(get("p", n))
		if err != nil {
			t.Fatal(err)
		}
		for _, x := range its {
			if index.Find(firsts, x.Id) != n || !f.Has(x.Id) {
				t.Errorf("%d isn't found in page %d", x.Id, n)
			}
		}
		all = append(all, its...)
	}
	if !sameTraces(all, l) {
		t.Errorf("%v; want %v", all, l)
	}
}

func TestBlockIsWholeOnceItsMetaIsThere(t *testing.T) { // P14.4
	for _, l := range samples() {
		for _, s := range fair() {
			st := empty(t, maxRoom)
			calls := len(wantObjects(9, 1, l, s))
			for n := max(0, calls-5); n <= calls; n++ {
				st.Fail(n)
				_, err := block.Write(st, 9, 1, l, s)
				st.Fail(-1)
				_, none := st.Get(meta.Name(9, "m", 0))
				if (err == nil) != (n == calls) || (none == nil) != (n == calls) {
					t.Fatalf("%d of %d: %v, %v", n, calls, err, none)
				}
			}
			expectWhole(t, st, 9, l)
		}
	}
}

// anyTraces are traces, canonical ones mostly.
func anyTraces(r *rand.Rand) []api.Trace {
	var l []api.Trace
	id := r.Uint64() >> (1 + r.Intn(63))
	for range r.Intn(30) {
		t := row(id, r.Intn(12), r.Intn(maxData+1))
		if r.Intn(6) > 0 && len(t.Spans) == 0 {
			t = row(id, 1, 0)
		}
		for i := range t.Spans {
			t.Spans[i].End += int64(r.Intn(1000))
		}
		l = append(l, t)
		id += uint64(1 + r.Intn(1<<r.Intn(30)))
	}
	if len(l) > 1 && r.Intn(8) == 0 {
		r.Shuffle(len(l), func(i, j int) { l[i], l[j] = l[j], l[i] })
	}
	return l
}

// areFair is the chapter's rule of traces of a block.
func areFair(l []api.Trace) bool {
	for i, t := range l {
		if len(t.Spans) == 0 || i > 0 && l[i-1].Id >= t.Id {
			return false
		}
	}
	return len(l) > 0
}

func TestMakeOfAny(t *testing.T) { // P14.1, P1
	r := rand.New(rand.NewSource(14))
	for range 2000 {
		l := anyTraces(r)
		s := api.Sizes{Page: 63 + r.Intn(1<<r.Intn(14)), Shards: r.Intn(18), Bits: 8 * r.Intn(20), Hashes: r.Intn(10)}
		id, level := uint64(r.Intn(20)), r.Intn(13)-1
		may := s.Page >= 64 && s.Page <= maxPage && s.Shards >= 1 && s.Shards <= 16 && s.Bits >= 8 && s.Hashes >= 1 && s.Hashes <= 8
		if block.May(s) != may {
			t.Fatalf("May(%v): %t", s, !may)
		}
		if may && id > 0 && level >= 0 && level <= maxLevel && areFair(l) {
			expectMade(t, id, level, l, s)
		} else {
			expectNoBlock(t, id, level, l, s, api.ErrArg)
		}
	}
}

func FuzzMake(f *testing.F) { // P14.1, P14.4
	f.Add(uint64(9), 1, 64, 1, 64, 2, int64(1))
	f.Add(uint64(0), 1, 64, 1, 64, 2, int64(2))
	f.Add(uint64(1<<63), 10, 8192, 16, 4096, 8, int64(3))
	f.Add(uint64(7), 11, 63, 17, 4097, 9, int64(4))
	f.Fuzz(func(t *testing.T, id uint64, level, page, shards, bits, hashes int, seed int64) {
		l := anyTraces(rand.New(rand.NewSource(seed)))
		s := api.Sizes{Page: page, Shards: shards, Bits: bits, Hashes: hashes}
		if !block.May(s) || id == 0 || level < 0 || level > maxLevel || !areFair(l) {
			expectNoBlock(t, id, level, l, s, api.ErrArg)
			return
		}
		expectMade(t, id, level, l, s)
		st := empty(t, maxRoom)
		if _, err := block.Write(st, id, level, l, s); err != nil {
			t.Fatal(err)
		}
		expectWhole(t, st, id, l)
	})
}
