package span_test

import (
	"bytes"
	"encoding/binary"
	"errors"
	"math"
	"slices"
	"testing"

	"tankard/api"
	"tankard/span"
)

const (
	maxTime = 1 << 40
	maxData = 64

	// How many bytes stand ahead of a list, and ahead of a span's text.
	ahead = 2
	fixed = 32
)

// filled is bytes that tell each of their places from those beside it.
func filled(n int) []byte {
	b := make([]byte, n)
	for i := range b {
		b[i] = byte(i*7 + i>>8 + 1)
	}
	return b
}

func join(parts ...[]byte) []byte { return bytes.Join(parts, nil) }

// raw is a span's bytes, as the chapter says, whether it may be or not.
func raw(s api.Span) []byte {
	var b []byte
	for _, n := range []uint64{s.Trace, s.Id, uint64(s.Start), uint64(s.End)} {
		b = binary.BigEndian.AppendUint64(b, n)
	}
	b = binary.BigEndian.AppendUint16(b, uint16(len(s.Data)))
	return append(b, s.Data...)
}

func count(n int) []byte { return []byte{byte(n >> 8), byte(n)} }

// rawAll is spans' bytes, as the chapter says.
func rawAll(l ...api.Span) []byte {
	b := count(len(l))
	for _, s := range l {
		b = append(b, raw(s)...)
	}
	return b
}

// samples are spans that may be, at the bounds and between them.
func samples() []api.Span {
	return []api.Span{
		{},
		{Data: []byte{}},
		{Trace: 1, Id: 2, Start: 3, End: 4, Data: []byte("x")},
		{Trace: 0x0102030405060708, Id: 0x1112131415161718, Start: 0x2122232425, End: 0x3132333435, Data: filled(9)},
		{Trace: math.MaxUint64, Id: math.MaxUint64, Start: maxTime, End: maxTime, Data: filled(maxData)},
		{Trace: 1 << 63, Id: 1<<63 - 1, Start: 0, End: maxTime, Data: make([]byte, maxData-1)},
		{Trace: 7, Id: 7, Start: maxTime - 1, End: maxTime, Data: bytes.Repeat([]byte{255}, maxData)},
		{Trace: 7, Id: 7, Start: 5, End: 5, Data: []byte{0}},
	}
}

// wrong are spans that may not be, but that a reader can read.
func wrong() []api.Span {
	return []api.Span{
		{Start: -1, End: 5},
		{Start: -1, End: -1},
		{Start: math.MinInt64, End: math.MaxInt64},
		{Start: math.MinInt64, End: math.MinInt64},
		{Start: 1, End: 0},
		{Start: 5, End: 4, Data: filled(maxData)},
		{Start: 0, End: -1},
		{Start: maxTime, End: maxTime - 1},
		{Start: 0, End: maxTime + 1},
		{Start: maxTime + 1, End: maxTime + 1},
		{Start: maxTime + 1, End: maxTime},
		{Start: 0, End: math.MaxInt64},
		{Start: math.MaxInt64, End: math.MaxInt64},
		{Start: math.MaxInt64, End: math.MinInt64},
	}
}

// long is a span whose times may be, with as many bytes as that.
func long(n int) api.Span { return api.Span{Trace: 1, Id: 2, Start: 3, End: 4, Data: filled(n)} }

func same(a, b api.Span) bool {
	return a.Trace == b.Trace && a.Id == b.Id && a.Start == b.Start && a.End == b.End && string(a.Data) == string(b.Data)
}

func cloned(l []api.Span) []api.Span {
	out := slices.Clone(l)
	for i := range out {
		out[i].Data = bytes.Clone(out[i].Data)
	}
	return out
}

func expectPut(t *testing.T, l []api.Span, want []byte) {
	t.Helper()
	if b, err := span.Put(l); err != nil || !bytes.Equal(b, want) {
		t.Errorf("Put(%d spans): %d bytes, %v; want %d bytes", len(l), len(b), err, len(want))
	}
}

// expectNotPut holds that an error is told itself, and with it no bytes.
func expectNotPut(t *testing.T, l []api.Span, want api.Code) {
	t.Helper()
	if b, err := span.Put(l); err != want || len(b) != 0 {
		t.Errorf("Put(%d spans): %d bytes, %v; want %v itself", len(l), len(b), err, want)
	}
}

func expectGot(t *testing.T, b []byte, want []api.Span) {
	t.Helper()
	if l, err := span.Get(b); err != nil || !slices.EqualFunc(l, want, same) {
		t.Errorf("Get(%d bytes): %d spans, %v; want %d spans", len(b), len(l), err, len(want))
	}
}

// expectAmiss holds that ErrForm is told as a Spot, and with it no spans.
func expectAmiss(t *testing.T, b []byte, at int) {
	t.Helper()
	l, err := span.Get(b)
	p, ok := err.(*api.Spot)
	if !ok || p == nil || p.At != at || p.Err != api.ErrForm || !errors.Is(err, api.ErrForm) || len(l) != 0 {
		t.Errorf("Get(%d bytes): %d spans, %v; want ErrForm at %d", len(b), len(l), err, at)
	}
}

func TestMayAtEachBound(t *testing.T) { // P3.1
	for _, c := range []struct {
		start, end int64
		data       int
		want       bool
	}{
		{0, 0, 0, true},
		{0, 1, 1, true},
		{-1, 0, 0, false},
		{-1, -1, 0, false},
		{-2, -1, 0, false},
		{math.MinInt64, 0, 0, false},
		{math.MinInt64, math.MinInt64, 0, false},
		{4, 5, 0, true},
		{5, 5, 0, true},
		{6, 5, 0, false},
		{1, 0, 0, false},
		{0, -1, 0, false},
		{0, math.MinInt64, 0, false},
		{0, maxTime - 1, 0, true},
		{0, maxTime, 0, true},
		{0, maxTime + 1, 0, false},
		{0, math.MaxInt64, 0, false},
		{maxTime - 1, maxTime, 0, true},
		{maxTime, maxTime, 0, true},
		{maxTime + 1, maxTime, 0, false},
		{maxTime + 1, maxTime + 1, 0, false},
		{math.MaxInt64, math.MaxInt64, 0, false},
		{math.MinInt64, math.MaxInt64, 0, false},
		{math.MaxInt64, math.MinInt64, 0, false},
		{0, 0, 63, true},
		{0, 0, 64, true},
		{0, 0, 65, false},
		{0, 0, 128, false},
		{0, 0, 256, false},
		{0, 0, 65536, false},
		{maxTime, maxTime, 64, true},
		{maxTime, maxTime, 65, false},
	} {
		for _, id := range []uint64{0, 1, math.MaxUint64} {
			s := api.Span{Trace: id, Id: ^id, Start: c.start, End: c.end, Data: make([]byte, c.data)}
			if got := span.May(s); got != c.want {
				t.Errorf("May(Start %d, End %d, %d bytes): %v", c.start, c.end, c.data, got)
			}
		}
	}
	if !span.May(api.Span{Data: nil}) || !span.May(api.Span{Data: make([]byte, 0, 100)}) {
		t.Error("a span without Data may be")
	}
	for _, s := range samples() {
		if !span.May(s) {
			t.Errorf("May(%v)", s)
		}
	}
	for _, s := range wrong() {
		if span.May(s) {
			t.Errorf("May(%v)", s)
		}
	}
}

// expectOrder holds that a stands ahead of b, both ways.
func expectOrder(t *testing.T, a, b api.Span) {
	t.Helper()
	if n, m := span.Compare(a, b), span.Compare(b, a); n != -1 || m != 1 {
		t.Errorf("Compare(%v, %v): %d, and %d the other way", a, b, n, m)
	}
}

func TestCompareByStartThenIdThenTrace(t *testing.T) { // P3.1
	starts := []int64{math.MinInt64, -1, 0, 1, 2, maxTime, math.MaxInt64}
	ids := []uint64{0, 1, 2, math.MaxInt64, 1 << 63, math.MaxUint64}
	for i := 1; i < len(starts); i++ {
		for _, lower := range starts[:i] {
			expectOrder(t, api.Span{Start: lower}, api.Span{Start: starts[i]})
			// The Start counts whatever the Id and the Trace say.
			expectOrder(t, api.Span{Start: lower, Id: 9, Trace: 9}, api.Span{Start: starts[i]})
			expectOrder(t, api.Span{Start: lower, Id: 9}, api.Span{Start: starts[i], Trace: 9})
			expectOrder(t, api.Span{Start: lower, Trace: 9}, api.Span{Start: starts[i], Id: 9})
		}
	}
	for i := 1; i < len(ids); i++ {
		for _, lower := range ids[:i] {
			expectOrder(t, api.Span{Start: 3, Id: lower}, api.Span{Start: 3, Id: ids[i]})
			// The Id counts whatever the Trace says.
			expectOrder(t, api.Span{Start: 3, Id: lower, Trace: 9}, api.Span{Start: 3, Id: ids[i]})
			expectOrder(t, api.Span{Start: 3, Id: 4, Trace: lower}, api.Span{Start: 3, Id: 4, Trace: ids[i]})
		}
	}
}

func TestCompareAtOnePlace(t *testing.T) { // P3.1
	for _, s := range slices.Concat(samples(), wrong(), []api.Span{long(100)}) {
		if span.Compare(s, s) != 0 {
			t.Errorf("Compare(%v) with itself", s)
		}
		// Neither End nor Data has a say.
		for _, end := range []int64{math.MinInt64, 0, s.End + 1, math.MaxInt64} {
			other := s
			other.End, other.Data = end, []byte("other")
			if span.Compare(s, other) != 0 || span.Compare(other, s) != 0 {
				t.Errorf("Compare(%v, %v)", s, other)
			}
		}
	}
	a := api.Span{Trace: 1, Id: 2, Start: 3, End: 9, Data: []byte("b")}
	b := api.Span{Trace: 1, Id: 2, Start: 4, End: 8, Data: []byte("a")}
	expectOrder(t, a, b)
}

func TestSameAtOneOtherField(t *testing.T) { // P3.1
	for _, s := range slices.Concat(samples(), wrong(), []api.Span{long(100)}) {
		if !span.Same(s, s) || !span.Same(s, cloned([]api.Span{s})[0]) {
			t.Errorf("Same(%v) with itself", s)
		}
		others := slices.Repeat([]api.Span{s}, 12)
		others[0].Trace++
		others[1].Trace ^= 1 << 63
		others[2].Id++
		others[3].Id ^= 1 << 63
		others[4].Start++
		others[5].Start ^= math.MinInt64
		others[6].End++
		others[7].End ^= math.MinInt64
		others[8].Data = append(bytes.Clone(s.Data), 0)
		others[9].Data = append([]byte{0}, s.Data...)
		others[10].Data = append(bytes.Clone(s.Data), s.Data...)
		others[10].Data = append(others[10].Data, 1)
		others[11].Data = filled(200)
		for i, other := range others {
			if span.Same(s, other) || span.Same(other, s) {
				t.Errorf("Same(%v, %v) at %d", s, other, i)
			}
		}
		for i := range s.Data {
			other := cloned([]api.Span{s})[0]
			other.Data[i]++
			if span.Same(s, other) || span.Same(other, s) {
				t.Errorf("Same at another byte %d of Data", i)
			}
			other.Data = other.Data[:i]
			if span.Same(s, other) || span.Same(other, s) {
				t.Errorf("Same at Data of %d bytes of %d", i, len(s.Data))
			}
		}
	}
	// Fields that are swapped are others.
	if span.Same(api.Span{Trace: 1, Id: 2}, api.Span{Trace: 2, Id: 1}) || span.Same(api.Span{Start: 1, End: 2}, api.Span{Start: 2, End: 1}) {
		t.Error("Same at swapped fields")
	}
}

func TestSameAtNoData(t *testing.T) { // P3.1
	none := []api.Span{{Id: 1}, {Id: 1, Data: []byte{}}, {Id: 1, Data: make([]byte, 0, 9)}}
	for _, a := range none {
		for _, b := range none {
			if !span.Same(a, b) {
				t.Errorf("Same(%v, %v)", a, b)
			}
		}
		if span.Same(a, api.Span{Id: 1, Data: []byte{0}}) {
			t.Error("Same at no Data and one byte of 0")
		}
	}
}

func TestPutOfKnownSpans(t *testing.T) { // P3.2
	expectPut(t, nil, []byte{0, 0})
	expectPut(t, []api.Span{}, []byte{0, 0})
	s := api.Span{Trace: 0x0102030405060708, Id: 0x1112131415161718, Start: 0x2122232425, End: 0x3132333435, Data: []byte("ab")}
	bytesOf := []byte{
		1, 2, 3, 4, 5, 6, 7, 8,
		0x11, 0x12, 0x13, 0x14, 0x15, 0x16, 0x17, 0x18,
		0, 0, 0, 0x21, 0x22, 0x23, 0x24, 0x25,
		0, 0, 0, 0x31, 0x32, 0x33, 0x34, 0x35,
		0, 2, 'a', 'b',
	}
	expectPut(t, []api.Span{s}, join([]byte{0, 1}, bytesOf))
	expectPut(t, []api.Span{s, {}, s}, join([]byte{0, 3}, bytesOf, make([]byte, 34), bytesOf))
	expectPut(t, []api.Span{{End: maxTime, Data: make([]byte, 64)}}, join(
		[]byte{0, 1}, make([]byte, 24), []byte{0, 0, 1, 0, 0, 0, 0, 0}, []byte{0, 64}, make([]byte, 64)))
}

func TestPutKeepsTheirOrder(t *testing.T) { // P3.2
	all := samples()
	for n := range len(all) + 1 {
		expectPut(t, all[:n], rawAll(all[:n]...))
	}
	slices.Reverse(all)
	expectPut(t, all, rawAll(all...))
	twice := append(all, all...)
	expectPut(t, twice, rawAll(twice...))
}

func TestPutAtManySpans(t *testing.T) { // P3.2
	for _, n := range []int{255, 256, 257, 65534, 65535} {
		l := make([]api.Span, n)
		for i := range l {
			l[i] = api.Span{Trace: uint64(i), Id: uint64(n - i), Start: int64(i), End: int64(n), Data: filled(i % 65)}
		}
		expectPut(t, l, rawAll(l...))
	}
	for _, n := range []int{65536, 65537, 2 * 65536, 2*65536 + 1} {
		expectNotPut(t, make([]api.Span, n), api.ErrLarge)
	}
}

func TestPutRefusesOneThatMayNotBe(t *testing.T) { // P3.2
	bad := append(wrong(), long(65), long(66), long(256), long(65535), long(65536), long(1<<17))
	for _, s := range bad {
		expectNotPut(t, []api.Span{s}, api.ErrArg)
		expectNotPut(t, []api.Span{s, s}, api.ErrArg)
		for at := range len(samples()) + 1 {
			expectNotPut(t, slices.Insert(samples(), at, s), api.ErrArg)
		}
	}
	l := make([]api.Span, 65535)
	for _, at := range []int{0, 30000, 65534} {
		l[at].Start = 1
		expectNotPut(t, l, api.ErrArg)
		l[at].Start = 0
	}
	expectPut(t, l, rawAll(l...))
}

func TestPutTellsLargeFirst(t *testing.T) { // P3.2, R1
	for _, at := range []int{0, 30000, 65535} {
		for _, s := range append(wrong(), long(65)) {
			l := make([]api.Span, 65536)
			l[at] = s
			expectNotPut(t, l, api.ErrLarge)
		}
	}
}

func TestGetTellsTheSpans(t *testing.T) { // P3.2
	expectGot(t, []byte{0, 0}, nil)
	expectGot(t, join([]byte{0, 1}, make([]byte, 34)), []api.Span{{}})
	all := samples()
	for n := range len(all) + 1 {
		expectGot(t, rawAll(all[:n]...), all[:n])
	}
	slices.Reverse(all)
	twice := append(all, all...)
	expectGot(t, rawAll(twice...), twice)
	for n := range maxData + 1 {
		expectGot(t, rawAll(long(n), long(0), long(n)), []api.Span{long(n), long(0), long(n)})
	}
}

// partAt is where that part begins in which bytes of these spans end, if
// they are cut at that byte.
func partAt(l []api.Span, cut int) int {
	begins := []int{0}
	at := ahead
	for _, s := range l {
		begins = append(begins, at, at+8, at+16, at+24, at+fixed)
		at += len(raw(s))
	}
	last := 0
	for _, begin := range begins {
		if begin <= cut {
			last = begin
		}
	}
	return last
}

func TestGetAtBytesThatEndInEachPart(t *testing.T) { // P3.2
	for _, l := range [][]api.Span{{{}}, {long(1)}, {long(64)}, {long(3), long(0), long(64)}, samples()} {
		b := rawAll(l...)
		for cut := range b {
			expectAmiss(t, b[:cut], partAt(l, cut))
			// What stands behind b, in its spare room, isn't part of it.
			expectAmiss(t, bytes.Clone(b[:cut]), partAt(l, cut))
		}
		expectGot(t, b, l)
	}
	expectAmiss(t, nil, 0)
	expectAmiss(t, []byte{}, 0)
	for _, x := range []byte{0, 1, 255} {
		expectAmiss(t, []byte{x}, 0)
	}
}

func TestGetAtMoreSpansThanThereAre(t *testing.T) { // P3.2
	for _, n := range []int{1, 2, 255, 256, 65535} {
		expectAmiss(t, count(n), 2)
	}
	b := rawAll(samples()...)
	for _, n := range []int{len(samples()) + 1, 256, 65535} {
		copy(b, count(n))
		expectAmiss(t, b, len(b))
	}
}

func TestGetAtATextLongerThanWhatIsLeft(t *testing.T) { // P3.2
	for _, head := range [][]api.Span{nil, {long(5)}, samples()} {
		b := rawAll(append(head, api.Span{})...)
		b = b[:len(b)-2]
		for _, n := range []int{1, 2, 64, 65, 256, 65535} {
			for left := range min(n, 70) {
				expectAmiss(t, join(b, count(n), filled(left)), len(b))
			}
		}
	}
}

func TestGetAtATextLongerThanDataMayBe(t *testing.T) { // P3.2
	for _, head := range [][]api.Span{nil, {long(5)}, samples()} {
		for _, n := range []int{65, 66, 127, 128, 256, 320, 65535} {
			for _, tail := range [][]api.Span{nil, {long(5)}, wrong()} {
				l := slices.Concat(head, []api.Span{long(n)}, tail)
				begin := len(rawAll(head...))
				expectAmiss(t, rawAll(l...), begin)
				// A text that isn't there whole is at fault itself.
				whole := begin + fixed + 2 + n
				expectAmiss(t, rawAll(l...)[:whole-1], begin+fixed)
			}
		}
	}
}

func TestGetAtAWrongSpanWithALongText(t *testing.T) { // P3.2
	for _, s := range wrong() {
		for _, n := range []int{65, 256, 65535} {
			s.Data = filled(n)
			for _, head := range [][]api.Span{nil, {long(5)}, samples()} {
				begin := len(rawAll(head...))
				b := rawAll(append(head, s)...)
				expectAmiss(t, b, begin)
				expectAmiss(t, join(b, filled(3)), begin)
				expectAmiss(t, b[:len(b)-1], begin+fixed)
			}
		}
	}
}

func TestGetAtASpanThatMayNotBe(t *testing.T) { // P3.2
	for _, s := range wrong() {
		for _, head := range [][]api.Span{nil, {long(5)}, samples()} {
			for _, tail := range [][]api.Span{nil, {long(5)}, samples()} {
				l := slices.Concat(head, []api.Span{s}, tail)
				expectAmiss(t, rawAll(l...), len(rawAll(head...)))
			}
		}
	}
}

func TestGetAtBytesThatAreLeft(t *testing.T) { // P3.2
	for _, l := range [][]api.Span{nil, {{}}, {long(64)}, samples()} {
		b := rawAll(l...)
		for _, n := range []int{1, 2, 3, 33, 34, 35, 1000} {
			expectAmiss(t, join(b, make([]byte, n)), len(b))
			expectAmiss(t, join(b, filled(n)), len(b))
		}
		// A list behind the list, or a span that isn't counted, is left, too.
		expectAmiss(t, join(b, b), len(b))
		expectAmiss(t, join(b, raw(long(4))), len(b))
		expectAmiss(t, join(b, raw(wrong()[0])), len(b))
	}
}

func TestGetAtSeveralFaults(t *testing.T) { // P3.2, R1
	cut := func(b []byte, by int) []byte { return b[:len(b)-by] }
	good, bad, large := long(7), wrong()[0], long(65)
	badLarge := bad
	badLarge.Data = filled(65)
	badText := bad
	badText.Data = filled(9)
	second := ahead + len(raw(good))
	for _, c := range []struct {
		name string
		b    []byte
		at   int
	}{
		{"two that may not be", rawAll(good, bad, wrong()[4]), second},
		{"one that may not be, and a cut one behind it", cut(rawAll(good, bad, good), 1), second},
		{"one that may not be, and too few spans", join(count(9), raw(bad)), ahead},
		{"one that may not be, and bytes left", join(rawAll(good, bad), []byte{1}), second},
		{"one that may not be, and a large text behind it", rawAll(bad, large), ahead},
		{"a large text, and one that may not be behind it", rawAll(good, large, bad), second},
		{"a large text, and bytes left", join(rawAll(large), []byte{1}), ahead},
		{"a large text, and a cut one behind it", cut(rawAll(large, good), 3), ahead},
		{"a large text that is cut, too", cut(rawAll(good, large), 3), second + fixed},
		{"a large text, and too few spans", join(count(9), raw(large)), ahead},
		{"one that may not be, with a large text that is cut", cut(rawAll(good, badLarge), 1), second + fixed},
		{"two large texts", rawAll(good, large, large), second},
		{"one that may not be, with a large text", rawAll(good, badLarge), second},
		{"one that may not be, its text cut", cut(rawAll(good, badText), 1), second + fixed},
		{"one that may not be, its text's length cut", cut(rawAll(good, bad), 1), second + fixed},
		{"one that may not be, its End cut", cut(rawAll(good, bad), 3), second + 24},
		{"one that may not be, without its End", cut(rawAll(good, bad), 10), second + 24},
		{"no spans, and one that may not be left", join(count(0), raw(bad)), ahead},
	} {
		l, err := span.Get(c.b)
		var p *api.Spot
		if !errors.As(err, &p) || p.At != c.at || p.Err != api.ErrForm || len(l) != 0 {
			t.Errorf("%s: %d spans, %v; want ErrForm at %d", c.name, len(l), err, c.at)
		}
	}
}

func TestNothingHandedInIsChanged(t *testing.T) { // P3.3
	for _, extra := range slices.Concat(samples(), wrong(), []api.Span{long(65)}) {
		// The room behind a list, and behind Data, is the caller's, too.
		l := append(samples(), extra, long(3), long(4))
		for i := range l {
			l[i].Data = append(l[i].Data, filled(8)...)
		}
		before := cloned(l)
		for i := range l {
			l[i].Data = l[i].Data[:len(l[i].Data)-8]
		}
		span.Put(l[:len(l)-2])
		for i, s := range l {
			span.May(s)
			span.Compare(s, l[0])
			span.Same(s, l[0])
			l[i].Data = s.Data[:len(s.Data)+8]
		}
		if !slices.EqualFunc(l, before, same) {
			t.Fatalf("a list, or what stands behind it, was changed")
		}
		b := join(rawAll(l[:2]...), raw(extra), filled(64))
		b[1] = 3
		was := bytes.Clone(b)
		for cut := range b {
			span.Get(b[:cut])
		}
		span.Get(b)
		if !bytes.Equal(b, was) {
			t.Fatalf("bytes, or what stands behind them, were changed")
		}
	}
}

func TestPutTellsNewMemory(t *testing.T) { // P3.3
	for _, l := range [][]api.Span{nil, {{}}, {long(64)}, samples()} {
		want := rawAll(l...)
		mine := cloned(l)
		b, err := span.Put(mine)
		other, _ := span.Put(mine)
		if err != nil {
			t.Fatal(err)
		}
		clear(other[:cap(other)])
		for _, s := range mine {
			clear(s.Data)
		}
		clear(mine)
		if !bytes.Equal(b, want) {
			t.Errorf("Put(%d spans) told memory of them, or of another answer", len(l))
		}
		mine = cloned(l)
		b, _ = span.Put(mine)
		for i := range b[:cap(b)] {
			b[:cap(b)][i] = 99
		}
		if !slices.EqualFunc(mine, l, same) {
			t.Errorf("Put(%d spans) told memory of them", len(l))
		}
		expectPut(t, mine, want)
	}
}

func TestGetTellsNewMemory(t *testing.T) { // P3.3
	for _, want := range [][]api.Span{nil, {{}}, {long(64)}, samples(), {long(9), long(9), long(9)}} {
		b := append(rawAll(want...), filled(64)...)
		was := bytes.Clone(b)
		size := len(b) - 64
		l, err := span.Get(b[:size])
		other, _ := span.Get(b[:size])
		if err != nil {
			t.Fatal(err)
		}
		for _, s := range other {
			whole := s.Data[:cap(s.Data)]
			for i := range whole {
				whole[i] = 99
			}
		}
		clear(other[:cap(other)])
		if !bytes.Equal(b, was) {
			t.Errorf("Get of %d spans told memory of b", len(want))
		}
		clear(b)
		if !slices.EqualFunc(l, want, same) {
			t.Errorf("Get of %d spans told memory of b, or of another answer", len(want))
		}
		expectGot(t, was[:size], want)
	}
}

func TestGotDataIsApart(t *testing.T) { // P3.3
	want := []api.Span{long(9), long(0), long(9), long(64), long(1)}
	for i := range want {
		l, err := span.Get(rawAll(want...))
		if err != nil {
			t.Fatal(err)
		}
		// An append to one has to leave the others alone.
		whole := append(l[i].Data, filled(300)...)
		for j := range whole {
			whole[j] = 99
		}
		room := l[i].Data[:cap(l[i].Data)]
		for j := range room {
			room[j] = 98
		}
		for j, s := range l {
			if j != i && !same(s, want[j]) {
				t.Errorf("the Data of spans %d and %d share memory", i, j)
			}
		}
	}
}

func TestWhatWasPutIsGotAsItWas(t *testing.T) { // P3.4
	lists := [][]api.Span{nil, {}, samples()}
	for n := range maxData + 1 {
		lists = append(lists, []api.Span{long(n)})
	}
	for _, n := range []int{100, 255, 256, 65535} {
		l := make([]api.Span, n)
		for i := range l {
			l[i] = api.Span{Trace: uint64(i) * 0x9e3779b97f4a7c15, Id: ^uint64(i), Start: int64(i) << 20, End: maxTime, Data: filled(i * 11 % 65)}
		}
		lists = append(lists, l)
	}
	for _, l := range lists {
		b, err := span.Put(l)
		if err != nil {
			t.Fatalf("Put(%d spans): %v", len(l), err)
		}
		got, err := span.Get(b)
		if err != nil || len(got) != len(l) {
			t.Fatalf("Get of %d spans: %d, %v", len(l), len(got), err)
		}
		for i, s := range l {
			if !same(got[i], s) || !span.Same(got[i], s) || span.Compare(got[i], s) != 0 {
				t.Fatalf("span %d of %d was got as %v, put as %v", i, len(l), got[i], s)
			}
		}
		expectPut(t, got, b)
	}
}

// wantAmiss is the chapter's rule, straight from the bytes: the byte of the
// first fault, or -1.
func wantAmiss(b []byte) int {
	if len(b) < ahead {
		return 0
	}
	at := ahead
	for range int(b[0])<<8 | int(b[1]) {
		for field := 0; field < fixed; field += 8 {
			if len(b) < at+field+8 {
				return at + field
			}
		}
		text := at + fixed
		if len(b) < text+2 {
			return text
		}
		n := int(b[text])<<8 | int(b[text+1])
		if len(b) < text+2+n {
			return text
		}
		start, end := binary.BigEndian.Uint64(b[at+16:]), binary.BigEndian.Uint64(b[at+24:])
		if start > end || end > maxTime || n > maxData {
			return at
		}
		at = text + 2 + n
	}
	if at < len(b) {
		return at
	}
	return -1
}

// hold holds what is true of all bytes: P1 of DOC.md, P3.2 and P3.4.
func hold(t *testing.T, b []byte) {
	t.Helper()
	if at := wantAmiss(b); at >= 0 {
		expectAmiss(t, b, at)
		return
	}
	l, err := span.Get(b)
	if err != nil || !bytes.Equal(rawAll(l...), b) {
		t.Fatalf("Get(%v): %v, %v", b, l, err)
	}
	for _, s := range l {
		if !span.May(s) {
			t.Fatalf("got %v, that may not be", s)
		}
	}
	expectPut(t, l, b)
}

func TestAnyAlteredByte(t *testing.T) { // P1 of DOC.md, P3.2
	for _, l := range [][]api.Span{nil, {{}}, {long(2), long(0), long(64)}, {long(65), long(66)}, samples()} {
		b := rawAll(l...)
		for i, was := range b {
			for _, x := range []byte{0, 1, 2, 3, 63, 64, 65, 127, 128, 254, 255, was + 1, was - 1} {
				b[i] = x
				hold(t, b)
				hold(t, b[:i])
			}
			b[i] = was
			hold(t, slices.Delete(bytes.Clone(b), i, i+1))
			hold(t, slices.Insert(bytes.Clone(b), i, 0))
		}
	}
}

func TestNoArgumentMakesItPanic(t *testing.T) { // P1 of DOC.md
	times := []int64{math.MinInt64, -1, 0, 1, maxTime, maxTime + 1, math.MaxInt64}
	var all []api.Span
	for _, start := range times {
		for _, end := range times {
			for _, data := range [][]byte{nil, {}, filled(64), filled(65), make([]byte, 65536)} {
				all = append(all, api.Span{Trace: uint64(start), Id: uint64(end), Start: start, End: end, Data: data})
			}
		}
	}
	for _, a := range all {
		want := 0 <= a.Start && a.Start <= a.End && a.End <= maxTime && len(a.Data) <= maxData
		if span.May(a) != want {
			t.Errorf("May(Start %d, End %d, %d bytes)", a.Start, a.End, len(a.Data))
		}
		if want {
			expectPut(t, []api.Span{a}, rawAll(a))
		} else {
			expectNotPut(t, []api.Span{a}, api.ErrArg)
		}
		for _, b := range all {
			if span.Compare(a, b) != -span.Compare(b, a) || span.Same(a, b) != same(a, b) {
				t.Errorf("Start %d, End %d and Start %d, End %d", a.Start, a.End, b.Start, b.End)
			}
		}
	}
}

func FuzzGet(f *testing.F) {
	f.Add([]byte{})
	f.Add([]byte{0, 0})
	f.Add(rawAll(samples()...))
	f.Add(rawAll(long(3), long(0), wrong()[0]))
	f.Add(rawAll(long(65)))
	f.Add(rawAll(long(65))[:100])
	f.Add(append(rawAll(long(1)), 7))
	f.Fuzz(hold)
}
