package page_test

import (
	"bytes"
	"encoding/binary"
	"hash/crc32"
	"math"
	"math/rand"
	"slices"
	"testing"

	"tankard/api"
	"tankard/page"
	"tankard/trace"
)

const (
	maxTime   = 1 << 40
	maxData   = 64
	maxSpans  = 100
	maxTraces = 64
	maxPage   = 8192
	leastMost = 64

	// Bytes of a page beside its traces', of a trace beside its spans', and of
	// a span beside its Data.
	pageFrame  = 2 + 4
	traceFrame = 8 + 4 + 2
	spanFrame  = 34
)

func sp(trace, id uint64, start, end int64, data string) api.Span {
	s := api.Span{Trace: trace, Id: id, Start: start, End: end}
	if data != "" {
		s.Data = []byte(data)
	}
	return s
}

func tr(id uint64, l ...api.Span) api.Trace { return api.Trace{Id: id, Spans: l} }

// row is a trace of n spans, each with so much Data; it is canonical, if n is
// from 1 to 100, and data up to 64.
func row(id uint64, n, data int) api.Trace {
	t := api.Trace{Id: id}
	for i := range n {
		s := sp(id, uint64(i), int64(i/3), int64(i), "")
		for j := range data {
			s.Data = append(s.Data, byte(int(id)+i*5+j))
		}
		t.Spans = append(t.Spans, s)
	}
	return t
}

// rows are n traces of one span each.
func rows(n, data int) []api.Trace {
	var l []api.Trace
	for i := range n {
		l = append(l, row(uint64(i), 1, data))
	}
	return l
}

func same(a, b api.Span) bool {
	return a.Trace == b.Trace && a.Id == b.Id && a.Start == b.Start && a.End == b.End && string(a.Data) == string(b.Data)
}

func sameTraces(a, b []api.Trace) bool {
	return slices.EqualFunc(a, b, func(a, b api.Trace) bool {
		return a.Id == b.Id && slices.EqualFunc(a.Spans, b.Spans, same)
	})
}

func sameParts(a, b [][]api.Trace) bool { return slices.EqualFunc(a, b, sameTraces) }

func seal(b []byte) []byte {
	return binary.BigEndian.AppendUint32(bytes.Clone(b), crc32.ChecksumIEEE(b))
}

func count(n int) []byte { return []byte{byte(n >> 8), byte(n)} }

// rawSpans is spans' bytes, as chapter 3 says, whether they may be or not.
func rawSpans(l ...api.Span) []byte {
	b := count(len(l))
	for _, s := range l {
		for _, n := range []uint64{s.Trace, s.Id, uint64(s.Start), uint64(s.End)} {
			b = binary.BigEndian.AppendUint64(b, n)
		}
		b = append(b, count(len(s.Data))...)
		b = append(b, s.Data...)
	}
	return b
}

// rawTrace is a trace's bytes in a page: spans' bytes, with their size.
func rawTrace(id uint64, size int, spans []byte) []byte {
	b := binary.BigEndian.AppendUint64(nil, id)
	b = binary.BigEndian.AppendUint32(b, uint32(size))
	return append(b, spans...)
}

// raw is a page's bytes ahead of their sum, as the chapter says, whether its
// traces are canonical or not.
func raw(l ...api.Trace) []byte {
	b := count(len(l))
	for _, t := range l {
		spans := rawSpans(t.Spans...)
		b = append(b, rawTrace(t.Id, len(spans), spans)...)
	}
	return b
}

// samples are pages' traces: none, few, at the bounds, and as many as go in.
func samples() [][]api.Trace {
	full := string(bytes.Repeat([]byte{255}, maxData))
	var large []api.Trace
	for i := range maxTraces {
		large = append(large, row(uint64(i)<<50, maxSpans, maxData))
	}
	return [][]api.Trace{
		nil,
		{},
		{tr(0, sp(0, 0, 0, 0, ""))},
		{tr(7, sp(7, 1, 3, 9, "x"))},
		{row(3, 1, 0), row(7, 1, 0)},
		{row(1, 3, 2), row(2, 1, 0), row(3, 7, 64), row(9, 2, 1)},
		{row(0, 1, 0), row(math.MaxUint64, 1, 0)},
		{tr(1<<63-1, sp(1<<63-1, 5, 0, maxTime, full), sp(1<<63-1, 4, maxTime, maxTime, full)), row(1<<63, 1, 5)},
		// One Id in several traces, whose times needn't rise.
		{tr(1, sp(1, 4, 8, 9, "a")), tr(2, sp(2, 4, 3, 9, "a"))},
		{row(5, maxSpans, 0)},
		{row(5, maxSpans, maxData)},
		rows(maxTraces-1, 3),
		rows(maxTraces, 0),
		large,
	}
}

// wrong are lists that no page has: not canonical, or too many.
func wrong() [][]api.Trace {
	bad := func(alter func(s *api.Span)) api.Trace {
		t := row(5, 3, 2)
		alter(&t.Spans[1])
		return t
	}
	out := [][]api.Trace{
		rows(maxTraces+1, 0),
		rows(2*maxTraces, 1),
		rows(256, 0),
		rows(1000, 0),
		{row(7, 1, 0), row(3, 1, 0)},
		{row(7, 1, 0), row(7, 1, 0)},
		{row(1<<63, 1, 0), row(1, 1, 0)},
		{tr(7, sp(7, 1, 1, 1, "")), tr(7, sp(7, 2, 2, 2, ""))},
		{row(1, 1, 0), row(3, 1, 0), row(2, 1, 0)},
	}
	for _, t := range []api.Trace{
		{Id: 5},
		{Id: 5, Spans: []api.Span{}},
		row(5, maxSpans+1, 0),
		row(5, 1000, 0),
		{Id: 5, Spans: row(4, 2, 0).Spans},
		bad(func(s *api.Span) { s.Trace = 4 }),
		bad(func(s *api.Span) { s.Start = -1 }),
		bad(func(s *api.Span) { s.End = s.Start - 1 }),
		bad(func(s *api.Span) { s.End = maxTime + 1 }),
		bad(func(s *api.Span) { s.Data = make([]byte, maxData+1) }),
		// Out of order, and two of one Id.
		tr(5, sp(5, 1, 2, 9, ""), sp(5, 2, 1, 9, "")),
		tr(5, sp(5, 2, 2, 9, ""), sp(5, 1, 2, 9, "")),
		tr(5, sp(5, 1, 2, 9, "a"), sp(5, 1, 2, 9, "a")),
		tr(5, sp(5, 1, 2, 9, ""), sp(5, 2, 3, 9, ""), sp(5, 1, 4, 9, "")),
	} {
		out = append(out, []api.Trace{t}, []api.Trace{row(1, 1, 0), t}, []api.Trace{t, row(9, 2, 3)})
	}
	return out
}

func expectPut(t *testing.T, l []api.Trace, want []byte) {
	t.Helper()
	if x, err := page.Put(l); err != nil || !bytes.Equal(x, want) {
		t.Errorf("Put(%d traces): %d bytes, %v; want %d bytes", len(l), len(x), err, len(want))
	}
}

// expectNotPut holds that an error is told itself, and with it no bytes.
func expectNotPut(t *testing.T, l []api.Trace) {
	t.Helper()
	if x, err := page.Put(l); err != api.ErrArg || len(x) != 0 {
		t.Errorf("Put(%d traces): %d bytes, %v; want ErrArg itself", len(l), len(x), err)
	}
}

func expectGot(t *testing.T, x []byte, want []api.Trace) {
	t.Helper()
	if l, err := page.Get(x); err != nil || !sameTraces(l, want) {
		t.Errorf("Get(%d bytes): %d traces, %v; want %d traces", len(x), len(l), err, len(want))
	}
}

// expectNotGot holds that an error is told itself, and with it no traces.
func expectNotGot(t *testing.T, x []byte, want api.Code) {
	t.Helper()
	if l, err := page.Get(x); err != want || len(l) != 0 {
		t.Errorf("Get(%d bytes): %d traces, %v; want %v itself", len(x), len(l), err, want)
	}
}

func expectCut(t *testing.T, l []api.Trace, most int, want [][]api.Trace) {
	t.Helper()
	if p, err := page.Cut(l, most); err != nil || !sameParts(p, want) {
		t.Errorf("Cut(%d traces, %d): parts of %v, %v; want of %v", len(l), most, sizes(p), err, sizes(want))
	}
}

func expectNotCut(t *testing.T, l []api.Trace, most int) {
	t.Helper()
	if p, err := page.Cut(l, most); err != api.ErrArg || len(p) != 0 {
		t.Errorf("Cut(%d traces, %d): %d parts, %v; want ErrArg itself", len(l), most, len(p), err)
	}
}

func sizes(parts [][]api.Trace) []int {
	var out []int
	for _, p := range parts {
		out = append(out, len(p))
	}
	return out
}

func TestPutOfKnownTraces(t *testing.T) { // P5.1
	expectPut(t, nil, seal([]byte{0, 0}))
	expectPut(t, []api.Trace{}, seal([]byte{0, 0}))
	expectPut(t, nil, []byte{0, 0, 0x41, 0xd9, 0x12, 0xff})
	l := []api.Trace{
		tr(0x0102030405060708, sp(0x0102030405060708, 0x1112131415161718, 0x2122232425, 0x3132333435, "ab")),
		tr(0x0202030405060708, sp(0x0202030405060708, 0, 0, 1, ""), sp(0x0202030405060708, 1, 0, 0, "z")),
	}
	expectPut(t, l, seal([]byte{
		0, 2,
		1, 2, 3, 4, 5, 6, 7, 8, // the first one's Id
		0, 0, 0, 38, // its spans' bytes
		0, 1,
		1, 2, 3, 4, 5, 6, 7, 8,
		0x11, 0x12, 0x13, 0x14, 0x15, 0x16, 0x17, 0x18,
		0, 0, 0, 0x21, 0x22, 0x23, 0x24, 0x25,
		0, 0, 0, 0x31, 0x32, 0x33, 0x34, 0x35,
		0, 2, 'a', 'b',
		2, 2, 3, 4, 5, 6, 7, 8, // the second one's Id
		0, 0, 0, 71,
		0, 2,
		2, 2, 3, 4, 5, 6, 7, 8,
		0, 0, 0, 0, 0, 0, 0, 0,
		0, 0, 0, 0, 0, 0, 0, 0,
		0, 0, 0, 0, 0, 0, 0, 1,
		0, 0,
		2, 2, 3, 4, 5, 6, 7, 8,
		0, 0, 0, 0, 0, 0, 0, 1,
		0, 0, 0, 0, 0, 0, 0, 0,
		0, 0, 0, 0, 0, 0, 0, 0,
		0, 1, 'z',
	}))
}

func TestPutAndGetOfSamples(t *testing.T) { // P5.1, P5.4
	for _, l := range samples() {
		x := seal(raw(l...))
		expectPut(t, l, x)
		expectGot(t, x, l)
	}
}

func TestPutOfTheLargestPage(t *testing.T) { // P5.1
	// Put asks no bound on bytes: that is Cut's.
	x, err := page.Put(samples()[len(samples())-1])
	if want := pageFrame + maxTraces*(traceFrame+maxSpans*(spanFrame+maxData)); err != nil || len(x) != want {
		t.Errorf("%d bytes, %v; want %d", len(x), err, want)
	}
}

func TestPutRefusesWhatIsNoPage(t *testing.T) { // P5.1
	for _, l := range wrong() {
		expectNotPut(t, l)
	}
}

func TestPutRefusesTheSixtyFifth(t *testing.T) { // P5.1
	l := rows(maxTraces+1, 0)
	expectNotPut(t, l)
	expectPut(t, l[1:], seal(raw(l[1:]...)))
	expectPut(t, l[:maxTraces], seal(raw(l[:maxTraces]...)))
}

func TestGetRefusesWhatIsNoPage(t *testing.T) { // P5.1
	for _, l := range wrong() {
		expectNotGot(t, seal(raw(l...)), api.ErrForm)
	}
}

func TestGetTellsTheErrorOfOpening(t *testing.T) { // P5.1
	for n := range 4 {
		expectNotGot(t, make([]byte, n), api.ErrForm)
	}
	expectNotGot(t, nil, api.ErrForm)
	for _, l := range [][]api.Trace{nil, {row(3, 1, 0)}, {row(1, 3, 2), row(2, 1, 0)}} {
		x := seal(raw(l...))
		for i := range x {
			for bit := range 8 {
				x[i] ^= 1 << bit
				expectNotGot(t, x, api.ErrSum)
				x[i] ^= 1 << bit
			}
		}
		for n := 4; n < len(x); n++ {
			expectNotGot(t, x[:n], api.ErrSum)
		}
		expectNotGot(t, append(bytes.Clone(x), 7), api.ErrSum)
		expectGot(t, x, l)
	}
	// The sum is told first, whatever else is amiss.
	for _, l := range wrong() {
		x := seal(raw(l...))
		x[len(x)-1] ^= 1
		expectNotGot(t, x, api.ErrSum)
	}
}

func TestGetAtBytesThatEnd(t *testing.T) { // P5.1
	for _, l := range [][]api.Trace{nil, {row(3, 1, 0)}, {row(1, 3, 2), row(2, 1, 0), row(4, 1, 64)}} {
		b := raw(l...)
		for n := range b {
			expectNotGot(t, seal(b[:n]), api.ErrForm)
		}
		expectGot(t, seal(b), l)
	}
}

func TestGetAtBytesThatAreLeft(t *testing.T) { // P5.1
	for _, l := range [][]api.Trace{nil, {row(3, 1, 0)}, {row(1, 3, 2), row(2, 1, 0)}, rows(maxTraces, 0)} {
		for _, tail := range [][]byte{{0}, {0, 0}, {1}, make([]byte, 12), make([]byte, 100), raw(row(99, 1, 0))[2:], raw(l...)} {
			expectNotGot(t, seal(append(raw(l...), tail...)), api.ErrForm)
		}
	}
}

func TestGetAtAnotherCount(t *testing.T) { // P5.1
	for _, l := range [][]api.Trace{nil, {row(3, 1, 0)}, {row(1, 3, 2), row(2, 1, 0)}, rows(maxTraces, 0)} {
		b := raw(l...)
		for _, n := range []int{0, 1, 2, 3, 63, 64, 65, 255, 256, 257, 258, 512, 65535} {
			if n != len(l) {
				copy(b, count(n))
				expectNotGot(t, seal(b), api.ErrForm)
			}
		}
	}
}

func TestGetAtAnotherSize(t *testing.T) { // P5.1
	one, two := row(3, 2, 5), row(7, 1, 0)
	first, second := rawSpans(one.Spans...), rawSpans(two.Spans...)
	right := slices.Concat(count(2), rawTrace(3, len(first), first), rawTrace(7, len(second), second))
	expectGot(t, seal(right), []api.Trace{one, two})
	for _, d := range []int{-80, -34, -2, -1, 1, 2, 8, 12, 48, 1000, 1 << 16, 1 << 31, math.MaxUint32 - len(first), math.MaxUint32 - len(second)} {
		b := slices.Concat(count(2), rawTrace(3, len(first)+d, first), rawTrace(7, len(second), second))
		expectNotGot(t, seal(b), api.ErrForm)
		b = slices.Concat(count(2), rawTrace(3, len(first), first), rawTrace(7, len(second)+d, second))
		expectNotGot(t, seal(b), api.ErrForm)
	}
	for _, size := range []int{0, 1, 2, 1<<31 - 1, 1 << 31, math.MaxUint32 - 1, math.MaxUint32} {
		expectNotGot(t, seal(slices.Concat(count(1), rawTrace(3, size, first))), api.ErrForm)
	}
	// A byte more in the size, and among the spans' bytes, is none of a span's.
	padded := append(bytes.Clone(first), 0)
	b := slices.Concat(count(2), rawTrace(3, len(padded), padded), rawTrace(7, len(second), second))
	expectNotGot(t, seal(b), api.ErrForm)
	b = slices.Concat(count(2), rawTrace(3, len(first), first), rawTrace(7, len(second)+1, append(second, 0)))
	expectNotGot(t, seal(b), api.ErrForm)
	// All bytes are those of spans, but as one trace's, of two Ids.
	both := rawSpans(append(slices.Clone(one.Spans), two.Spans...)...)
	expectNotGot(t, seal(slices.Concat(count(1), rawTrace(3, len(both), both))), api.ErrForm)
}

func TestGetAtAnotherId(t *testing.T) { // P5.1
	spans := rawSpans(row(3, 2, 5).Spans...)
	for _, id := range []uint64{0, 2, 4, 3 << 8, 3 | 1<<63, math.MaxUint64} {
		expectNotGot(t, seal(slices.Concat(count(1), rawTrace(id, len(spans), spans))), api.ErrForm)
	}
}

func TestGetAtSpansThatMayNotBe(t *testing.T) { // P5.1
	// Of an error of layer 3 just its Code is told, not its place.
	for _, s := range []api.Span{sp(3, 1, -1, 5, ""), sp(3, 1, 5, 4, ""), sp(3, 1, 0, maxTime+1, ""), sp(3, 1, 0, 0, string(make([]byte, 65)))} {
		for _, l := range [][]api.Trace{{tr(3, s)}, {row(1, 1, 0), tr(3, s)}, {tr(3, s), row(9, 1, 0)}} {
			expectNotGot(t, seal(raw(l...)), api.ErrForm)
		}
	}
	none := seal(slices.Concat(count(1), rawTrace(3, 2, []byte{0, 0})))
	expectNotGot(t, none, api.ErrForm)
	empty := seal(slices.Concat(count(1), rawTrace(3, 0, nil)))
	expectNotGot(t, empty, api.ErrForm)
}

// holdBytes holds that of bytes, sealed, either nothing is got, or what is put
// as just those.
func holdBytes(t *testing.T, b []byte) bool {
	t.Helper()
	x := seal(b)
	l, err := page.Get(x)
	if err != nil {
		expectNotGot(t, x, api.ErrForm)
		return false
	}
	if !trace.Is(l) || len(l) > maxTraces {
		t.Errorf("Get(%v): %v", x, l)
	}
	expectPut(t, l, x)
	return true
}

func TestGetAtAnyBytes(t *testing.T) { // P5.1
	r := rand.New(rand.NewSource(1))
	got := 0
	for range 20000 {
		b := raw(anyTraces(r, 4)...)
		for range r.Intn(3) {
			b[r.Intn(len(b))] ^= 1 << r.Intn(8)
		}
		if holdBytes(t, b) {
			got++
		}
	}
	if got < 1000 || got > 19000 {
		t.Errorf("%d of 20000 are got: the test's bytes say little", got)
	}
	for range 5000 {
		b := make([]byte, r.Intn(40))
		for i := range b {
			b[i] = byte(r.Intn(3))
		}
		holdBytes(t, b)
	}
}

// anyTraces makes canonical traces, of few spans and of many.
func anyTraces(r *rand.Rand, most int) []api.Trace {
	var l []api.Trace
	id := uint64(0)
	for range r.Intn(most + 1) {
		id += 1 + uint64(r.Intn(3))
		n := 1 + r.Intn(3)
		if r.Intn(10) == 0 {
			n = 1 + r.Intn(maxSpans)
		}
		l = append(l, row(id, n, r.Intn(maxData+1)))
	}
	return l
}

func TestPutThenGet(t *testing.T) { // P5.4
	r := rand.New(rand.NewSource(2))
	for range 500 {
		l := anyTraces(r, maxTraces)
		x, err := page.Put(l)
		if err != nil {
			t.Fatal(err)
		}
		expectGot(t, x, l)
	}
}

// wantParts is the chapter's rule: each part is the longest beginning of what is
// left that goes into a page, but at least one trace.
func wantParts(l []api.Trace, most int) [][]api.Trace {
	var parts [][]api.Trace
	for len(l) > 0 {
		n := 1
		for n < len(l) && n < maxTraces && len(seal(raw(l[:n+1]...))) <= most {
			n++
		}
		parts = append(parts, l[:n])
		l = l[n:]
	}
	return parts
}

func TestCutOfNoTraces(t *testing.T) { // P5.2
	for _, most := range []int{leastMost, 100, maxPage} {
		expectCut(t, nil, most, nil)
		expectCut(t, []api.Trace{}, most, nil)
	}
}

func TestCutAtJustAsManyBytes(t *testing.T) { // P5.2
	// A trace of one span has 48 bytes, and as many as its Data.
	const one = traceFrame + spanFrame
	for _, data := range []int{0, 1, 9, maxData} {
		l := rows(20, data)
		for n := 1; n <= 7; n++ {
			size := pageFrame + n*(one+data)
			if size > leastMost {
				expectCut(t, l, size-1, slices.Collect(slices.Chunk(l, max(n-1, 1))))
			}
			if size >= leastMost {
				expectCut(t, l, size, slices.Collect(slices.Chunk(l, n)))
				expectCut(t, l, size+1, slices.Collect(slices.Chunk(l, n)))
			}
		}
	}
	// Just as many as the greatest bound has.
	l := []api.Trace{row(1, maxSpans, 44), row(2, 4, maxData), row(3, 1, 0)}
	s := &l[1].Spans[3]
	s.Data = s.Data[:30]
	if n := len(seal(raw(l[:2]...))); n != maxPage {
		t.Fatalf("%d bytes", n)
	}
	expectCut(t, l, maxPage, [][]api.Trace{l[:2], l[2:]})
	expectCut(t, l, maxPage-1, [][]api.Trace{l[:1], l[1:]})
}

func TestCutAtTheSixtyFifth(t *testing.T) { // P5.2
	// Of 64 traces of one span there is room left in the greatest page.
	for n, want := range map[int][]int{
		63: {63}, 64: {64}, 65: {64, 1}, 66: {64, 2}, 127: {64, 63}, 128: {64, 64}, 129: {64, 64, 1}, 200: {64, 64, 64, 8},
	} {
		l := rows(n, 0)
		p, err := page.Cut(l, maxPage)
		if err != nil || !slices.Equal(sizes(p), want) || !sameTraces(slices.Concat(p...), l) {
			t.Errorf("%d traces: parts of %v, %v; want of %v", n, sizes(p), err, want)
		}
	}
	// With just as many bytes as 64 of them have, and one less.
	l := rows(130, 0)
	size := pageFrame + 64*(traceFrame+spanFrame)
	expectCut(t, l, size, [][]api.Trace{l[:64], l[64:128], l[128:]})
	expectCut(t, l, size-1, [][]api.Trace{l[:63], l[63:126], l[126:]})
}

func TestCutAtATraceLargerThanAPage(t *testing.T) { // P5.2
	large := func(id uint64) api.Trace { return row(id, maxSpans, maxData) }
	for _, most := range []int{leastMost, 200, maxPage} {
		expectCut(t, []api.Trace{large(1)}, most, [][]api.Trace{{large(1)}})
		l := []api.Trace{large(1), large(2), large(3)}
		expectCut(t, l, most, [][]api.Trace{l[:1], l[1:2], l[2:]})
	}
	// Neither does it go behind others, nor others behind it.
	l := []api.Trace{row(1, 1, 0), row(2, 1, 0), large(3), row(4, 1, 0), row(5, 1, 0), large(6), large(7), row(8, 1, 0)}
	expectCut(t, l, maxPage, [][]api.Trace{l[:2], l[2:3], l[3:5], l[5:6], l[6:7], l[7:]})
	// Even the least one may be larger than the least bound.
	l = rows(5, 11)
	expectCut(t, l, leastMost, slices.Collect(slices.Chunk(l, 1)))
}

func TestCutTakesTheFirstOnesFirst(t *testing.T) { // P5.2
	// What doesn't go in is not passed over for what would.
	l := []api.Trace{row(1, 1, 0), row(2, 5, 60), row(3, 1, 0), row(4, 1, 0), row(5, 1, 0)}
	expectCut(t, l, 160, [][]api.Trace{l[:1], l[1:2], l[2:]})
	// Nor are parts evened out: the last one has what is left.
	l = rows(4, 0)
	expectCut(t, l, pageFrame+3*48, [][]api.Trace{l[:3], l[3:]})
}

func TestCutRefusesOtherBounds(t *testing.T) { // P5.2
	for _, l := range [][]api.Trace{nil, {row(3, 1, 0)}, rows(100, 1)} {
		for _, most := range []int{math.MinInt, -8192, -64, -1, 0, 1, 6, 54, 63, 8193, 16384, 1 << 20, math.MaxInt} {
			expectNotCut(t, l, most)
		}
		for _, most := range []int{64, 65, 8191, 8192} {
			expectCut(t, l, most, wantParts(l, most))
		}
	}
}

func TestCutRefusesWhatIsNotCanonical(t *testing.T) { // P5.2
	for _, l := range wrong() {
		// Too many for one page is what Cut is there for.
		if trace.Is(l) {
			expectCut(t, l, maxPage, wantParts(l, maxPage))
			continue
		}
		expectNotCut(t, l, leastMost)
		expectNotCut(t, l, maxPage)
		expectNotCut(t, l, 0)
		// What is wrong may stand where the first parts are full.
		behind := slices.Concat(rows(3, 0), l)
		expectNotCut(t, behind, leastMost)
	}
}

func TestCutOfAnyTraces(t *testing.T) { // P5.2, P5.4
	r := rand.New(rand.NewSource(3))
	for i := range 1000 {
		l := anyTraces(r, 10)
		if i%10 == 0 {
			l = anyTraces(r, 150)
		}
		most := leastMost + r.Intn(maxPage-leastMost+1)
		if i%3 == 0 {
			most = leastMost + r.Intn(400)
		}
		want := wantParts(l, most)
		expectCut(t, l, most, want)
		parts, _ := page.Cut(l, most)
		if !sameTraces(slices.Concat(parts...), l) {
			t.Errorf("all parts of Cut(%d traces, %d) together are others", len(l), most)
		}
		for j, p := range parts {
			x, err := page.Put(p)
			if err != nil || len(x) > most && len(p) > 1 {
				t.Errorf("part %d of Cut(%d traces, %d): %d bytes, %v", j, len(l), most, len(x), err)
			}
			expectGot(t, x, p)
		}
		if t.Failed() {
			t.FailNow()
		}
	}
}

// roomy is traces whose lists and Data have room behind them, that is the
// caller's, with something in it.
func roomy() []api.Trace {
	l := append(make([]api.Trace, 0, 20), row(1, 3, 2), row(2, 1, 64), row(3, 7, 1), row(5, 2, 0), row(6, 2, 9))
	for i := range l {
		for j := range l[i].Spans {
			d := l[i].Spans[j].Data
			l[i].Spans[j].Data = append(make([]byte, 0, 70), d...)
		}
		l[i].Spans = append(make([]api.Span, 0, 20), l[i].Spans...)
	}
	spoil(l)
	return l
}

// spoil writes into all room behind lists and Data.
func spoil(l []api.Trace) {
	for _, t := range l {
		for _, s := range t.Spans {
			fill(s.Data[len(s.Data):cap(s.Data)])
		}
		behind := t.Spans[len(t.Spans):cap(t.Spans)]
		for i := range behind {
			behind[i] = sp(88, 88, 88, 88, "88")
		}
	}
	behind := l[len(l):cap(l)]
	for i := range behind {
		behind[i] = row(77, 1, 2)
	}
}

func fill(b []byte) {
	for i := range b {
		b[i] = 99
	}
}

// overwrite writes over all that traces reach, with the room behind.
func overwrite(l []api.Trace) {
	for _, t := range l {
		for _, s := range t.Spans {
			fill(s.Data[:cap(s.Data)])
		}
		all := t.Spans[:cap(t.Spans)]
		for i := range all {
			all[i] = sp(66, 66, 66, 66, "66")
		}
	}
	all := l[:cap(l)]
	for i := range all {
		all[i] = row(55, 2, 1)
	}
}

// whole is all that traces reach, with the room behind.
func whole(l []api.Trace) []api.Trace {
	w := slices.Clone(l[:cap(l)])
	for i := range w {
		w[i].Spans = slices.Clone(w[i].Spans[:cap(w[i].Spans)])
		for j := range w[i].Spans {
			d := w[i].Spans[j].Data
			w[i].Spans[j].Data = bytes.Clone(d[:cap(d)])
		}
	}
	return w
}

func TestNothingHandedInIsChanged(t *testing.T) { // P5.3
	l := roomy()
	before := whole(l)
	page.Put(l)
	page.Cut(l, leastMost)
	page.Cut(l, 300)
	page.Cut(l, maxPage)
	if !sameTraces(whole(l), before) || !sameTraces(l, roomy()) {
		t.Error("Put, or Cut, changed its traces, or what stands behind them")
	}
	for _, bad := range wrong() {
		before := whole(bad)
		page.Put(bad)
		page.Cut(bad, 100)
		if !sameTraces(whole(bad), before) {
			t.Error("Put, or Cut, changed wrong traces")
		}
	}
	sealed := seal(raw(roomy()...))
	for _, x := range [][]byte{sealed, append(bytes.Clone(sealed[:30]), sealed[31:]...), seal([]byte{0, 9})} {
		x := append(make([]byte, 0, 2*len(x)), x...)
		fill(x[len(x):cap(x)])
		before := bytes.Clone(x[:cap(x)])
		page.Get(x)
		if !bytes.Equal(x[:cap(x)], before) {
			t.Error("Get changed its bytes, or what stands behind them")
		}
	}
}

func TestBytesThatArePutAreNew(t *testing.T) { // P5.3
	l := roomy()
	want := seal(raw(l...))
	x, _ := page.Put(l)
	other, _ := page.Put(l)
	overwrite(l)
	fill(other[:cap(other)])
	if !bytes.Equal(x, want) {
		t.Error("Put told memory of its traces, or of another answer")
	}
	none, _ := page.Put(nil)
	fill(none[:cap(none)])
	expectPut(t, nil, seal([]byte{0, 0}))
}

func TestTracesThatAreGotAreNew(t *testing.T) { // P5.3
	want := roomy()
	x := seal(raw(want...))
	l, _ := page.Get(x)
	other, _ := page.Get(x)
	overwrite(other)
	if !bytes.Equal(x, seal(raw(want...))) {
		t.Error("Get told memory of its bytes")
	}
	fill(x)
	if !sameTraces(l, want) {
		t.Error("Get told memory of its bytes, or of another answer")
	}
	expectApart(t, "Get", func() [][]api.Trace {
		l, _ := page.Get(seal(raw(want...)))
		return [][]api.Trace{l}
	})
}

func TestPartsThatAreCutAreNew(t *testing.T) { // P5.3
	for _, most := range []int{leastMost, 300, 700, maxPage} {
		want := wantParts(roomy(), most)
		l := roomy()
		parts, _ := page.Cut(l, most)
		other, _ := page.Cut(l, most)
		for _, p := range other {
			overwrite(p)
		}
		clear(other[:cap(other)])
		if !sameTraces(l, roomy()) {
			t.Errorf("Cut at %d told memory of its traces", most)
		}
		overwrite(l)
		if !sameParts(parts, want) {
			t.Errorf("Cut at %d told memory of its traces, or of another answer", most)
		}
		expectApart(t, "Cut", func() [][]api.Trace {
			parts, _ := page.Cut(roomy(), most)
			return parts
		})
	}
}

// expectApart holds that no two lists of an answer share memory: what is written
// over one of them is seen in no other one.
func expectApart(t *testing.T, what string, call func() [][]api.Trace) {
	t.Helper()
	want := call()
	for i := range want {
		got := call()
		overwrite(got[i])
		got[i] = want[i]
		if !sameParts(got, want) {
			t.Errorf("%s: part %d shares memory with another one", what, i)
		}
		for j := range want[i] {
			got := call()
			overwrite(got[i][j : j+1 : j+1])
			got[i][j] = want[i][j]
			if !sameParts(got, want) {
				t.Errorf("%s: trace %d of part %d shares memory with another one", what, j, i)
			}
			for k, s := range want[i][j].Spans {
				got := call()
				d := got[i][j].Spans[k].Data
				fill(d[:cap(d)])
				got[i][j].Spans[k] = s
				if !sameParts(got, want) {
					t.Errorf("%s: span %d of trace %d of part %d shares its Data", what, k, j, i)
				}
			}
		}
	}
}

func TestWithAnErrorNothingElseIsTold(t *testing.T) { // R3 of DOC.md
	if x, err := page.Put(rows(65, 0)); x != nil || err == nil {
		t.Error(x, err)
	}
	if l, err := page.Get(seal(raw(row(1, 1, 0), row(1, 1, 0)))); l != nil || err == nil {
		t.Error(l, err)
	}
	if p, err := page.Cut(rows(65, 0), 63); p != nil || err == nil {
		t.Error(p, err)
	}
}

func TestNoArgumentMakesItPanic(t *testing.T) { // P1 of DOC.md
	many := make([]api.Trace, 100000)
	expectNotPut(t, many)
	expectNotCut(t, many, maxPage)
	huge := []api.Trace{tr(0, api.Span{Data: make([]byte, 1<<20)})}
	expectNotPut(t, huge)
	expectNotCut(t, huge, maxPage)
	crowd := []api.Trace{{Spans: make([]api.Span, 1<<17)}}
	expectNotPut(t, crowd)
	expectNotCut(t, crowd, maxPage)
	expectNotGot(t, seal(make([]byte, 1<<20)), api.ErrForm)
	expectNotGot(t, seal(bytes.Repeat([]byte{255}, 1<<20)), api.ErrForm)
	expectNotGot(t, bytes.Repeat([]byte{255}, 1<<20), api.ErrSum)
	l := rows(20000, 1)
	expectCut(t, l, leastMost, slices.Collect(slices.Chunk(l, 1)))
	expectCut(t, l, maxPage, slices.Collect(slices.Chunk(l, maxTraces)))
}

func FuzzGet(f *testing.F) {
	for _, l := range [][]api.Trace{nil, {row(3, 1, 0)}, {row(1, 3, 2), row(2, 1, 0)}, wrong()[4], wrong()[5]} {
		f.Add(raw(l...))
	}
	f.Fuzz(func(t *testing.T, b []byte) { holdBytes(t, b) })
}
