package index_test

import (
	"bytes"
	"encoding/binary"
	"hash/crc32"
	"math"
	"math/rand"
	"slices"
	"testing"

	"tankard/api"
	"tankard/index"
	"tankard/page"
)

const (
	maxTime   = 1 << 40
	maxData   = 64
	maxSpans  = 100
	maxTraces = 64
	maxPages  = 200
)

func sp(trace, id uint64, start, end int64, data string) api.Span {
	return api.Span{Trace: trace, Id: id, Start: start, End: end, Data: []byte(data)}
}

// tr is a trace of n spans, which is canonical, if n is from 1 to 100.
func tr(id uint64, n int) api.Trace {
	t := api.Trace{Id: id}
	for i := range n {
		t.Spans = append(t.Spans, sp(id, uint64(i), int64(i/3), int64(i), "ab"))
	}
	return t
}

// pagesOf are pages of traces of these Ids, of one span each.
func pagesOf(ids ...[]uint64) [][]api.Trace {
	var pages [][]api.Trace
	for _, its := range ids {
		l := []api.Trace{}
		for _, id := range its {
			l = append(l, tr(id, 1))
		}
		pages = append(pages, l)
	}
	return pages
}

// many are n pages of a trace each.
func many(n int) [][]api.Trace {
	var pages [][]api.Trace
	for i := range n {
		pages = append(pages, []api.Trace{tr(uint64(5*i+2), 1)})
	}
	return pages
}

// row is n numbers that rise.
func row(n int) []uint64 {
	var l []uint64
	for i := range n {
		l = append(l, uint64(5*i+2))
	}
	return l
}

// samples are indexes: of no page, of few, at the bounds, and of as many as may be.
func samples() [][]uint64 {
	var wide []uint64
	for i := range maxPages {
		wide = append(wide, uint64(i)<<56|uint64(i))
	}
	return [][]uint64{
		nil,
		{},
		{0},
		{7},
		{math.MaxUint64},
		{3, 8},
		{0, 1},
		{0, math.MaxUint64},
		{math.MaxUint64 - 1, math.MaxUint64},
		{255, 256, 65535, 65536, 1<<32 - 1, 1 << 32},
		// Signed ones wouldn't rise.
		{1<<63 - 1, 1 << 63},
		row(maxPages - 1),
		row(maxPages),
		wide,
	}
}

// wrong are numbers that are no index.
func wrong() [][]uint64 {
	l := [][]uint64{
		{3, 3},
		{8, 3},
		{0, 0},
		{1, 0},
		{math.MaxUint64, math.MaxUint64},
		{math.MaxUint64, 0},
		{1 << 63, 1<<63 - 1},
		{3, 8, 8},
		{3, 3, 8},
		{3, 8, 7},
		{3, 8, 2, 9},
		{256, 1},
		row(maxPages + 1),
		row(2 * maxPages),
		make([]uint64, maxPages+1),
	}
	for at := 1; at < maxPages; at++ {
		same, less := row(maxPages), row(maxPages)
		same[at] = same[at-1]
		less[at] = less[at-1] - 1
		l = append(l, same, less)
	}
	return l
}

// isIndex is the chapter's index: at most so many, and of any two the later one is greater.
func isIndex(l []uint64) bool {
	for i := range l {
		for j := range i {
			if l[j] >= l[i] {
				return false
			}
		}
	}
	return len(l) <= maxPages
}

// found is what the chapter's Find tells: of all pages that would do the last.
func found(l []uint64, id uint64) int {
	last := -1
	for at := range l {
		if l[at] <= id {
			last = at
		}
	}
	return last
}

func sealed(b []byte) []byte {
	return binary.BigEndian.AppendUint32(bytes.Clone(b), crc32.ChecksumIEEE(b))
}

// raw is numbers' bytes ahead of their sum, whether they are an index or not.
func raw(count int, l ...uint64) []byte {
	b := []byte{byte(count >> 8), byte(count)}
	for _, n := range l {
		b = binary.BigEndian.AppendUint64(b, n)
	}
	return b
}

// gotten are the numbers of an index's bytes, and whether they are one's.
func gotten(b []byte) ([]uint64, bool) {
	if len(b) < 2 || len(b) != 2+8*(int(b[0])*256+int(b[1])) {
		return nil, false
	}
	var l []uint64
	for b = b[2:]; len(b) > 0; b = b[8:] {
		l = append(l, binary.BigEndian.Uint64(b))
	}
	return l, isIndex(l)
}

func expectOf(t testing.TB, pages [][]api.Trace, want []uint64) {
	t.Helper()
	l, err := index.Of(pages)
	if err != nil || !slices.Equal(l, want) {
		t.Errorf("Of(%v): %v, %v; want %v", pages, l, err, want)
	}
}

func expectNone(t testing.TB, pages [][]api.Trace) {
	t.Helper()
	l, err := index.Of(pages)
	if err != error(api.ErrArg) || len(l) > 0 {
		t.Errorf("Of(%v): %v, %v; want ErrArg", pages, l, err)
	}
}

func put(t testing.TB, l []uint64) []byte {
	t.Helper()
	x, err := index.Put(l)
	if err != nil {
		t.Fatalf("Put(%v): %v", l, err)
	}
	return x
}

func expectGot(t testing.TB, x []byte, want []uint64) {
	t.Helper()
	l, err := index.Get(x)
	if err != nil || !slices.Equal(l, want) {
		t.Errorf("Get(%x): %v, %v; want %v", x, l, err, want)
	}
}

func expectNotGot(t testing.TB, x []byte, want api.Code) {
	t.Helper()
	l, err := index.Get(x)
	if err != error(want) || len(l) > 0 {
		t.Errorf("Get(%x): %v, %v; want %v", x, l, err, want)
	}
}

func TestExample(t *testing.T) { // P12.1
	if n := index.Find([]uint64{3, 7}, 5); n != 0 {
		t.Errorf("page %d; want 0", n)
	}
}

func TestOf(t *testing.T) { // P12.1
	expectOf(t, nil, nil)
	expectOf(t, [][]api.Trace{}, nil)
	expectOf(t, pagesOf([]uint64{3}), []uint64{3})
	expectOf(t, pagesOf([]uint64{0}), []uint64{0})
	expectOf(t, pagesOf([]uint64{math.MaxUint64}), []uint64{math.MaxUint64})
	expectOf(t, pagesOf([]uint64{3, 5}, []uint64{8}), []uint64{3, 8})
	expectOf(t, pagesOf([]uint64{0, 1, 2}, []uint64{3}, []uint64{4, 1 << 63, math.MaxUint64}), []uint64{0, 3, 4})
	expectOf(t, pagesOf([]uint64{1<<63 - 1}, []uint64{1 << 63}), []uint64{1<<63 - 1, 1 << 63})
	expectOf(t, [][]api.Trace{{tr(1, maxSpans), tr(4, 3)}, {tr(6, maxSpans)}}, []uint64{1, 6})
	full := sp(9, 1, maxTime, maxTime, string(make([]byte, maxData)))
	expectOf(t, [][]api.Trace{{tr(1, 1)}, {{Id: 9, Spans: []api.Span{full}}}}, []uint64{1, 9})
}

func TestOfAsManyPagesAsMayBe(t *testing.T) { // P12.1
	for _, n := range []int{1, 2, maxPages - 1, maxPages} {
		expectOf(t, many(n), row(n))
	}
	for _, n := range []int{maxPages + 1, maxPages + 2, 2 * maxPages, 3000} {
		expectNone(t, many(n))
	}
}

func TestOfAPageHasAsManyTracesAsItLikes(t *testing.T) { // P12.1
	// The bound on a page's traces is the pages' own.
	var l []uint64
	for i := range 3*maxTraces + 1 {
		l = append(l, uint64(2*i))
	}
	expectOf(t, pagesOf(l), []uint64{0})
	expectOf(t, pagesOf(l[:maxTraces+1], l[maxTraces+1:]), []uint64{0, l[maxTraces+1]})
}

func TestOfAPageWithoutATrace(t *testing.T) { // P12.1
	for _, none := range [][]api.Trace{nil, {}} {
		for _, n := range []int{1, 2, 3, 7, maxPages} {
			for at := range n {
				pages := many(n)
				pages[at] = none
				expectNone(t, pages)
			}
		}
	}
	expectNone(t, make([][]api.Trace, 5))
}

func TestOfPagesThatDontRise(t *testing.T) { // P12.1
	for _, ids := range [][][]uint64{
		{{3, 3}},
		{{5, 3}},
		{{3}, {3}},
		{{8}, {3}},
		{{3, 5}, {4}},
		{{3, 5}, {5}},
		{{3, 5}, {5, 6}},
		{{3, 9}, {8, 10}},
		{{1}, {2}, {2}},
		{{1}, {7}, {4}, {9}},
		{{math.MaxUint64}, {0}},
		{{1 << 63}, {1<<63 - 1}},
		// The first ones rise, and so the numbers would.
		{{3, 20}, {8}, {30}},
		{{3}, {8, 7}, {30}},
		{{3}, {8}, {30, 29}},
	} {
		expectNone(t, pagesOf(ids...))
	}
}

func TestOfATraceThatIsNotCanonical(t *testing.T) { // P12.1
	for _, spans := range [][]api.Span{
		nil,
		{},
		tr(3, maxSpans+1).Spans,
		{sp(2, 1, 0, 0, "")},
		{sp(4, 1, 0, 0, "")},
		{sp(3, 1, 0, 0, ""), sp(4, 2, 1, 1, "")},
		{sp(3, 1, -1, 0, "")},
		{sp(3, 1, 2, 1, "")},
		{sp(3, 1, 0, maxTime+1, "")},
		{sp(3, 1, 0, 0, string(make([]byte, maxData+1)))},
		{sp(3, 1, 5, 6, ""), sp(3, 2, 4, 6, "")},
		{sp(3, 2, 5, 6, ""), sp(3, 1, 5, 6, "")},
		{sp(3, 1, 5, 6, ""), sp(3, 1, 5, 6, "")},
		{sp(3, 1, 5, 6, ""), sp(3, 1, 7, 8, "")},
	} {
		bad := api.Trace{Id: 3, Spans: spans}
		expectNone(t, [][]api.Trace{{bad}})
		expectNone(t, [][]api.Trace{{bad, tr(4, 1)}})
		expectNone(t, [][]api.Trace{{tr(1, 1), bad}})
		expectNone(t, [][]api.Trace{{tr(1, 1), bad}, {tr(9, 1)}})
		expectNone(t, [][]api.Trace{{tr(1, 1)}, {bad}, {tr(9, 1)}})
		expectNone(t, [][]api.Trace{{tr(1, 1)}, {tr(2, 1), bad, tr(5, 1)}, {tr(9, 1)}})
		expectNone(t, [][]api.Trace{{tr(1, 1)}, {tr(2, 1)}, {bad}})
	}
}

func TestFind(t *testing.T) { // P12.1
	for _, l := range samples() {
		ids := []uint64{0, 1, 1<<63 - 1, 1 << 63, math.MaxUint64 - 1, math.MaxUint64}
		for _, n := range l {
			ids = append(ids, n-1, n, n+1)
		}
		for _, id := range ids {
			if n, want := index.Find(l, id), found(l, id); n != want {
				t.Errorf("Find(%v, %d): %d; want %d", l, id, n, want)
			}
		}
	}
}

func TestFindOfNone(t *testing.T) { // P12.1
	for _, id := range []uint64{0, 1, math.MaxUint64} {
		if n := index.Find(nil, id); n != -1 {
			t.Errorf("of no page: %d", n)
		}
		if n := index.Find([]uint64{}, id); n != -1 {
			t.Errorf("of no page: %d", n)
		}
	}
	for at, want := range []int{-1, -1, -1, 0, 0} {
		if n := index.Find([]uint64{3}, uint64(at)); n != want {
			t.Errorf("Find(3, %d): %d; want %d", at, n, want)
		}
	}
}

func TestFindOfNumbersThatAreNoIndex(t *testing.T) { // P12.1, P1
	for _, l := range wrong() {
		for _, id := range []uint64{0, 2, 3, 5, 8, 500, 999, math.MaxUint64} {
			if n, want := index.Find(l, id), found(l, id); n != want {
				t.Errorf("Find(%v, %d): %d; want %d", l, id, n, want)
			}
		}
	}
}

func TestPut(t *testing.T) { // P12.2
	for _, l := range samples() {
		if x := put(t, l); !bytes.Equal(x, sealed(raw(len(l), l...))) {
			t.Errorf("Put(%v): %x", l, x)
		}
	}
	want := sealed([]byte{0, 2, 0, 0, 0, 0, 0, 0, 0, 3, 1, 2, 3, 4, 5, 6, 7, 8})
	if x := put(t, []uint64{3, 0x0102030405060708}); !bytes.Equal(x, want) {
		t.Errorf("%x; want %x", x, want)
	}
}

func TestPutOfNoIndex(t *testing.T) { // P12.2
	for _, l := range wrong() {
		if x, err := index.Put(l); err != error(api.ErrArg) || len(x) > 0 {
			t.Errorf("Put(%v): %x, %v; want ErrArg", l, x, err)
		}
	}
	// More than the width of their count holds: it isn't told modulo.
	for _, n := range []int{65535, 65536, 65537} {
		if x, err := index.Put(row(n)); err != error(api.ErrArg) || len(x) > 0 {
			t.Errorf("Put of %d: %d bytes, %v; want ErrArg", n, len(x), err)
		}
	}
}

func TestGet(t *testing.T) { // P12.2
	for _, l := range samples() {
		expectGot(t, put(t, l), l)
		expectGot(t, sealed(raw(len(l), l...)), l)
	}
}

func TestGetOfTooFewBytesToOpen(t *testing.T) { // P12.2
	for _, x := range [][]byte{nil, {}, {0}, {0, 0}, {0, 0, 0}} {
		expectNotGot(t, x, api.ErrForm)
	}
}

func TestGetOfAnotherSum(t *testing.T) { // P12.2
	for _, l := range [][]uint64{nil, {3}, {3, 8, 1 << 60}} {
		x := put(t, l)
		for i := range x {
			for bit := range 8 {
				x[i] ^= 1 << bit
				expectNotGot(t, x, api.ErrSum)
				x[i] ^= 1 << bit
			}
		}
		for n := 4; n < len(x); n++ {
			expectNotGot(t, x[:n], api.ErrSum)
		}
		expectNotGot(t, append(bytes.Clone(x), 0), api.ErrSum)
		expectNotGot(t, x[1:], api.ErrSum)
	}
}

func TestGetTellsOpensErrorFirst(t *testing.T) { // P12.2, R1
	// These are neither sealed nor an index's.
	for _, b := range [][]byte{{}, {1}, raw(0, 1), raw(1), raw(2, 3, 3), raw(maxPages+1, row(maxPages+1)...)} {
		x := sealed(b)
		x[len(x)-1] ^= 1
		expectNotGot(t, x, api.ErrSum)
	}
}

func TestGetOfNumbersThatAreNoIndex(t *testing.T) { // P12.2
	for _, l := range wrong() {
		expectNotGot(t, sealed(raw(len(l), l...)), api.ErrForm)
	}
}

func TestGetOfAnotherCount(t *testing.T) { // P12.2
	for _, l := range [][]uint64{nil, {3}, {3, 8}, row(maxPages - 1), row(maxPages), row(256)} {
		for _, n := range []int{0, 1, 2, 3, 7, 8, maxPages - 1, maxPages, maxPages + 1, 255, 256, 257, 512, 1 << 13, 1 << 15, 65535} {
			if n != len(l) {
				expectNotGot(t, sealed(raw(n, l...)), api.ErrForm)
			}
		}
	}
}

func TestGetOfBytesThatAreCutOrLeft(t *testing.T) { // P12.2
	for _, l := range [][]uint64{nil, {3}, {0}, {3, 8, 1 << 60}, row(maxPages)} {
		b := raw(len(l), l...)
		for n := range b {
			expectNotGot(t, sealed(b[:n]), api.ErrForm)
		}
		for n := range 40 {
			expectNotGot(t, sealed(append(bytes.Clone(b), make([]byte, n+1)...)), api.ErrForm)
			expectNotGot(t, sealed(append(bytes.Clone(b), bytes.Repeat([]byte{255}, n+1)...)), api.ErrForm)
		}
		// An index sealed twice is no index's.
		expectNotGot(t, sealed(sealed(b)), api.ErrForm)
	}
}

func TestOfKeepsAndChangesNothing(t *testing.T) { // P12.3
	pages := pagesOf([]uint64{3, 5}, []uint64{8, 9, 11}, []uint64{20})
	// There is room behind each page, that is the caller's.
	for i := range pages {
		room := append(slices.Clone(pages[i]), tr(70, 1), tr(71, 1))
		pages[i] = room[:len(pages[i])]
	}
	l, err := index.Of(pages)
	if err != nil {
		t.Fatal(err)
	}
	for i, want := range pagesOf([]uint64{3, 5, 70, 71}, []uint64{8, 9, 11, 70, 71}, []uint64{20, 70, 71}) {
		if its := pages[i][:len(pages[i])+2]; !slices.EqualFunc(its, want, sameTrace) {
			t.Errorf("page %d is %v; was %v", i, its, want)
		}
	}
	for _, its := range pages {
		clear(its)
	}
	clear(pages)
	if !slices.Equal(l, []uint64{3, 8, 20}) {
		t.Errorf("%v: it is kept in what was handed in", l)
	}
}

func sameTrace(a, b api.Trace) bool {
	return a.Id == b.Id && slices.EqualFunc(a.Spans, b.Spans, func(a, b api.Span) bool {
		return a.Trace == b.Trace && a.Id == b.Id && a.Start == b.Start && a.End == b.End && bytes.Equal(a.Data, b.Data)
	})
}

func TestFindAndPutKeepAndChangeNothing(t *testing.T) { // P12.3
	for _, l := range append(samples(), wrong()...) {
		was := slices.Concat(l, []uint64{77, 78})
		room := slices.Clone(was)
		its := room[:len(l)]
		index.Find(its, 9)
		index.Find(its, 0)
		x, err := index.Put(its)
		if !slices.Equal(room, was) {
			t.Fatalf("%v; was %v", room, was)
		}
		clear(room)
		if err == nil && !bytes.Equal(x, sealed(raw(len(l), l...))) {
			t.Errorf("%x: it is kept in what was handed in", x)
		}
	}
}

func TestGetKeepsAndChangesNothing(t *testing.T) { // P12.3
	for _, l := range samples() {
		x := put(t, l)
		room := append(bytes.Clone(x), 7, 7, 7, 7, 7, 7, 7, 7, 7)
		was := bytes.Clone(room)
		g, err := index.Get(room[:len(x)])
		if err != nil || !bytes.Equal(room, was) {
			t.Fatalf("%x, %v; was %x", room, err, was)
		}
		clear(room)
		if !slices.Equal(g, l) {
			t.Errorf("%v: it is kept in what was handed in", g)
		}
	}
}

func TestWhatIsToldIsNewMemory(t *testing.T) { // P12.3
	pages := many(5)
	a, _ := index.Of(pages)
	b, _ := index.Of(pages)
	clear(a[:cap(a)])
	if !slices.Equal(b, row(5)) {
		t.Errorf("%v: two calls of Of tell one memory", b)
	}
	x, y := put(t, b), put(t, b)
	want := bytes.Clone(y)
	clear(x[:cap(x)])
	if !bytes.Equal(y, want) {
		t.Errorf("%x: two calls of Put tell one memory", y)
	}
	g, _ := index.Get(y)
	h, _ := index.Get(y)
	clear(g[:cap(g)])
	if !slices.Equal(h, row(5)) || !bytes.Equal(y, want) {
		t.Errorf("%v: two calls of Get tell one memory", h)
	}
}

// somePages are canonical traces, in pages, however many lie in each.
func somePages(r *rand.Rand) [][]api.Trace {
	var pages [][]api.Trace
	id := uint64(r.Intn(3))
	step := uint64(1) << r.Intn(50)
	for range 1 + r.Intn(maxPages) {
		var l []api.Trace
		for range 1 + r.Intn(5) {
			l = append(l, tr(id, 1+r.Intn(3)))
			id += 1 + r.Uint64()%step
		}
		pages = append(pages, l)
	}
	return pages
}

func expectFound(t testing.TB, pages [][]api.Trace) {
	t.Helper()
	l, err := index.Of(pages)
	if err != nil {
		t.Fatal(err)
	}
	g, err := index.Get(put(t, l))
	if err != nil {
		t.Fatal(err)
	}
	for at, its := range pages {
		for _, one := range its {
			if n, m := index.Find(l, one.Id), index.Find(g, one.Id); n != at || m != at {
				t.Errorf("of %v: %d is in page %d, but %d, and %d, are found", l, one.Id, at, n, m)
			}
		}
	}
}

func TestATraceIsInThePageThatIsFound(t *testing.T) { // P12.4
	r := rand.New(rand.NewSource(124))
	for range 200 {
		expectFound(t, somePages(r))
	}
	expectFound(t, pagesOf([]uint64{0, 1<<63 - 1}, []uint64{1 << 63, math.MaxUint64}))
	expectFound(t, pagesOf([]uint64{0}, []uint64{math.MaxUint64}))
	expectFound(t, many(maxPages))
}

func TestATraceIsInThePageThatWasCut(t *testing.T) { // P12.4
	r := rand.New(rand.NewSource(125))
	for _, most := range []int{64, 65, 100, 500, 2000, 8192} {
		for range 20 {
			var l []api.Trace
			id := uint64(0)
			for range 1 + r.Intn(maxPages) {
				id += 1 + uint64(r.Intn(9))
				l = append(l, tr(id, 1+r.Intn(4)))
			}
			pages, err := page.Cut(l, most)
			if err != nil {
				t.Fatal(err)
			}
			expectFound(t, pages)
		}
	}
}

func TestWhatWasPutIsGot(t *testing.T) { // P12.2
	r := rand.New(rand.NewSource(126))
	for range 500 {
		var l []uint64
		for range r.Intn(maxPages + 1) {
			l = append(l, r.Uint64()>>r.Intn(40))
		}
		slices.Sort(l)
		l = slices.Compact(l)
		expectGot(t, put(t, l), l)
	}
}

func TestNoCallPanics(t *testing.T) { // P1
	r := rand.New(rand.NewSource(127))
	for range 20000 {
		var l []uint64
		for range r.Intn(6) {
			l = append(l, uint64(r.Intn(9)))
		}
		x, err := index.Put(l)
		if (err == nil) != isIndex(l) || err != nil && len(x) > 0 {
			t.Fatalf("Put(%v): %x, %v", l, x, err)
		}
		if n := index.Find(l, uint64(r.Intn(10))); n < -1 || n >= len(l) {
			t.Fatalf("Find in %v: %d", l, n)
		}
		b := make([]byte, r.Intn(30))
		r.Read(b)
		if len(b) > 1 {
			b[0], b[1] = 0, byte(r.Intn(4))
		}
		g, err := index.Get(sealed(b))
		if _, ok := gotten(b); ok != (err == nil) || err != nil && len(g) > 0 {
			t.Fatalf("Get of %x: %v, %v", b, g, err)
		}
		index.Get(b)
	}
	for range 5000 {
		var pages [][]api.Trace
		for range r.Intn(4) {
			var its []api.Trace
			for range r.Intn(3) {
				its = append(its, tr(uint64(r.Intn(9)), r.Intn(3)))
			}
			pages = append(pages, its)
		}
		if l, err := index.Of(pages); err == nil && len(l) != len(pages) || err != nil && len(l) > 0 {
			t.Fatalf("Of(%v): %v, %v", pages, l, err)
		}
	}
}

func FuzzGet(f *testing.F) { // P12.2
	f.Add([]byte{}, true)
	f.Add(raw(0), true)
	f.Add(raw(2, 3, 8), true)
	f.Add(raw(2, 8, 3), true)
	f.Add(raw(maxPages+1, row(maxPages+1)...), true)
	f.Add(sealed(raw(1, 5)), false)
	f.Fuzz(func(t *testing.T, b []byte, seal bool) {
		x := b
		if seal {
			x = sealed(b)
		}
		if len(x) < 4 {
			expectNotGot(t, x, api.ErrForm)
			return
		}
		inner := x[:len(x)-4]
		if !bytes.Equal(sealed(inner), x) {
			expectNotGot(t, x, api.ErrSum)
			return
		}
		l, ok := gotten(inner)
		if !ok {
			expectNotGot(t, x, api.ErrForm)
			return
		}
		expectGot(t, x, l)
		if y := put(t, l); !bytes.Equal(y, x) {
			t.Errorf("%x is put as %x", x, y)
		}
	})
}

func FuzzOf(f *testing.F) { // P12.1, P12.4
	f.Add([]byte{1, 2, 0, 1, 1})
	f.Add([]byte{3, 0, 0, 4})
	f.Add(bytes.Repeat([]byte{1, 0}, maxPages+1))
	f.Fuzz(func(t *testing.T, b []byte) {
		// A 0 begins a page; another byte is a trace, whose Id is by so much
		// greater: modulo 256 that is at times the same one, or less.
		pages := [][]api.Trace{nil}
		id := byte(0)
		may := true
		for _, n := range b {
			if n == 0 {
				pages = append(pages, nil)
				continue
			}
			may = may && int(id)+int(n) < 256
			id += n
			pages[len(pages)-1] = append(pages[len(pages)-1], tr(uint64(id), 1))
		}
		var want []uint64
		for _, its := range pages {
			if may = may && len(its) > 0 && len(pages) <= maxPages; may {
				want = append(want, its[0].Id)
			}
		}
		if !may {
			expectNone(t, pages)
			return
		}
		expectOf(t, pages, want)
		expectFound(t, pages)
	})
}
