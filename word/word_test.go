package word_test

import (
	"bytes"
	"math"
	"slices"
	"testing"

	"tankard/api"
	"tankard/word"
)

var widths = []int{1, 2, 4, 8}

// The last ones are a width again once they are cut to fewer bits.
var noWidths = []int{0, 3, 5, 6, 7, 9, 16, 32, 64, -1, -2, -4, -8, math.MaxInt, math.MinInt, 256 + 1, 65536 + 2, 1<<32 + 4, 1<<32 + 8, math.MinInt + 4}

// heads are what stands ahead; the last one has room behind it.
func heads() [][]byte {
	return [][]byte{nil, {}, {7}, {1, 2, 3}, append(make([]byte, 0, 64), 9, 8)}
}

func greatest(wide int) uint64 {
	return math.MaxUint64 >> (64 - 8*wide)
}

func join(parts ...[]byte) []byte { return bytes.Join(parts, nil) }

// filled is a text that tells each of its places from those beside it.
func filled(n int) []byte {
	s := make([]byte, n)
	for i := range s {
		s[i] = byte(i*7 + i>>8 + 1)
	}
	return s
}

// expect holds a reader's place and fault against what they are to be.
func expect(t *testing.T, r *word.Reader, left, bad int) {
	t.Helper()
	if r.Left() != left || r.Bad() != bad {
		t.Errorf("left %d, bad %d; want %d, %d", r.Left(), r.Bad(), left, bad)
	}
}

// expectStuck holds that nothing is told any more, whatever is asked.
func expectStuck(t *testing.T, r *word.Reader, left, bad int) {
	t.Helper()
	expect(t, r, left, bad)
	for range 2 {
		for _, wide := range slices.Concat(noWidths, widths) {
			if n := r.Word(wide); n != 0 {
				t.Errorf("Word(%d) told %d behind a fault", wide, n)
			}
			expect(t, r, left, bad)
		}
		for _, most := range []int{math.MinInt, -1, 0, 1, 65535, math.MaxInt} {
			if s := r.Text(most); len(s) != 0 {
				t.Errorf("Text(%d) told %v behind a fault", most, s)
			}
			expect(t, r, left, bad)
		}
	}
}

func TestPutTellsTheHighestByteFirst(t *testing.T) { // P1.1
	for _, c := range []struct {
		wide int
		n    uint64
		want []byte
	}{
		{1, 0, []byte{0}},
		{1, 1, []byte{1}},
		{1, 255, []byte{255}},
		{2, 0, []byte{0, 0}},
		{2, 258, []byte{1, 2}},
		{2, 65535, []byte{255, 255}},
		{4, 0, []byte{0, 0, 0, 0}},
		{4, 0x01020304, []byte{1, 2, 3, 4}},
		{4, 0xfffffffe, []byte{255, 255, 255, 254}},
		{8, 0, []byte{0, 0, 0, 0, 0, 0, 0, 0}},
		{8, 0x0102030405060708, []byte{1, 2, 3, 4, 5, 6, 7, 8}},
		{8, 1 << 63, []byte{128, 0, 0, 0, 0, 0, 0, 0}},
		{8, math.MaxUint64, []byte{255, 255, 255, 255, 255, 255, 255, 255}},
	} {
		for _, head := range heads() {
			b, err := word.Put(head, c.wide, c.n)
			if err != nil || !bytes.Equal(b, join(head, c.want)) {
				t.Errorf("Put(%v, %d, %d): %v, %v", head, c.wide, c.n, b, err)
			}
		}
	}
}

func TestPutTakesWhatTheWidthTakes(t *testing.T) { // P1.1
	for _, wide := range widths {
		for _, head := range heads() {
			most := greatest(wide)
			want := join(head, bytes.Repeat([]byte{255}, wide))
			if b, err := word.Put(head, wide, most); err != nil || !bytes.Equal(b, want) {
				t.Errorf("Put(%v, %d, %d): %v, %v", head, wide, most, b, err)
			}
			if wide == 8 {
				continue
			}
			for _, n := range []uint64{most + 1, most + 2, 1 << 63, math.MaxUint64} {
				if b, err := word.Put(head, wide, n); err != api.ErrArg || b != nil {
					t.Errorf("Put(%v, %d, %d): %v, %v", head, wide, n, b, err)
				}
			}
		}
	}
}

func TestPutRefusesOtherWidths(t *testing.T) { // P1.1
	for _, wide := range noWidths {
		for _, n := range []uint64{0, 1, math.MaxUint64} {
			for _, head := range heads() {
				if b, err := word.Put(head, wide, n); err != api.ErrArg || b != nil {
					t.Errorf("Put(%v, %d, %d): %v, %v", head, wide, n, b, err)
				}
			}
		}
	}
}

func TestTextPutsItsLengthAhead(t *testing.T) { // P1.1
	for _, c := range []struct {
		s     []byte
		ahead []byte
	}{
		{nil, []byte{0, 0}},
		{[]byte{}, []byte{0, 0}},
		{[]byte{0}, []byte{0, 1}},
		{[]byte("ab"), []byte{0, 2}},
		{filled(255), []byte{0, 255}},
		{filled(256), []byte{1, 0}},
		{filled(258), []byte{1, 2}},
		{filled(65535), []byte{255, 255}},
	} {
		for _, head := range heads() {
			b, err := word.Text(head, c.s)
			if err != nil || !bytes.Equal(b, join(head, c.ahead, c.s)) {
				t.Errorf("Text(%v, %d bytes): %d bytes, %v", head, len(c.s), len(b), err)
			}
		}
	}
}

func TestTextRefusesLargeOnes(t *testing.T) { // P1.1
	for _, size := range []int{65536, 65537, 2 * 65536, 1 << 20} {
		for _, head := range heads() {
			if b, err := word.Text(head, make([]byte, size)); err != api.ErrLarge || b != nil {
				t.Errorf("Text(%v, %d bytes): %d bytes, %v", head, size, len(b), err)
			}
		}
	}
	// Only s is bounded: b may have more.
	b, err := word.Text(filled(70000), []byte{5})
	if err != nil || !bytes.Equal(b, append(filled(70000), 0, 1, 5)) {
		t.Errorf("Text(70000 bytes, 1 byte): %d bytes, %v", len(b), err)
	}
}

func TestReadBeginsAtTheFirstByte(t *testing.T) { // P1.2
	for _, b := range [][]byte{nil, {}, {1}, filled(1000)} {
		expect(t, word.Read(b), len(b), -1)
	}
}

func TestWordTellsWhatStandsNext(t *testing.T) { // P1.2
	r := word.Read([]byte{255, 1, 2, 1, 2, 3, 4, 128, 2, 3, 4, 5, 6, 7, 8, 0})
	for _, c := range []struct {
		wide int
		want uint64
		left int
	}{{1, 255, 15}, {2, 258, 13}, {4, 0x01020304, 9}, {8, 0x8002030405060708, 1}, {1, 0, 0}} {
		if n := r.Word(c.wide); n != c.want {
			t.Errorf("Word(%d): %d, want %d", c.wide, n, c.want)
		}
		expect(t, r, c.left, -1)
	}
	if n := r.Word(1); n != 0 {
		t.Errorf("Word(1) at the end: %d", n)
	}
	expectStuck(t, r, 0, 16)
}

func TestWordNeedsAllItsBytes(t *testing.T) { // P1.2
	for _, wide := range widths {
		for short := range wide {
			for _, at := range []int{0, 3} {
				r := word.Read(bytes.Repeat([]byte{1}, at+short))
				for range at {
					r.Word(1)
				}
				expect(t, r, short, -1)
				if n := r.Word(wide); n != 0 {
					t.Errorf("Word(%d) at %d bytes: %d", wide, short, n)
				}
				expectStuck(t, r, short, at)
			}
		}
	}
}

func TestWordRefusesOtherWidths(t *testing.T) { // P1.2
	for _, wide := range noWidths {
		for _, size := range []int{0, 1, 20} {
			r := word.Read(bytes.Repeat([]byte{1}, size))
			if n := r.Word(wide); n != 0 {
				t.Errorf("Word(%d): %d", wide, n)
			}
			expectStuck(t, r, size, 0)
		}
		r := word.Read(bytes.Repeat([]byte{1}, 20))
		r.Word(4)
		if n := r.Word(wide); n != 0 {
			t.Errorf("Word(%d): %d", wide, n)
		}
		expectStuck(t, r, 16, 4)
	}
}

func TestTextTellsWhatStandsNext(t *testing.T) { // P1.2
	r := word.Read([]byte{0, 2, 'a', 'b', 0, 0, 0, 1, 0, 0, 3, 'c', 'd', 'e', 9})
	for _, c := range []struct {
		most int
		want string
		left int
	}{{2, "ab", 11}, {0, "", 9}, {math.MaxInt, "\x00", 6}, {4, "cde", 1}} {
		if s := r.Text(c.most); string(s) != c.want {
			t.Errorf("Text(%d): %q, want %q", c.most, s, c.want)
		}
		expect(t, r, c.left, -1)
	}
	if n := r.Word(1); n != 9 {
		t.Errorf("Word(1) behind texts: %d", n)
	}
	expect(t, r, 0, -1)
}

func TestTextReadsItsLengthHighestFirst(t *testing.T) { // P1.2
	for _, size := range []int{255, 256, 258, 65535} {
		b := join([]byte{byte(size >> 8), byte(size)}, filled(size), []byte{1, 2, 3})
		r := word.Read(b)
		if s := r.Text(size); !bytes.Equal(s, filled(size)) {
			t.Errorf("Text(%d): %d bytes", size, len(s))
		}
		expect(t, r, 3, -1)
	}
}

func TestTextNeedsAllItsBytes(t *testing.T) { // P1.2
	for _, b := range [][]byte{
		{},
		{0},
		{1},
		{0, 1},
		{0, 2, 'a'},
		{0, 4, 'a', 'b', 'c'},
		{1, 0},
		{255, 255},
		join([]byte{1, 0}, filled(255)),
		join([]byte{255, 255}, filled(65534)),
	} {
		for _, head := range [][]byte{{}, {1}, {1, 2, 3, 4}} {
			r := word.Read(join(head, b))
			for range head {
				r.Word(1)
			}
			expect(t, r, len(b), -1)
			if s := r.Text(math.MaxInt); len(s) != 0 {
				t.Errorf("Text at %d bytes that end too early: %d bytes", len(b), len(s))
			}
			expectStuck(t, r, len(b), len(head))
		}
	}
}

func TestTextRefusesMoreThanMost(t *testing.T) { // P1.2
	for _, c := range []struct {
		size, most int
	}{{0, -1}, {0, math.MinInt}, {1, 0}, {1, -1}, {2, 1}, {3, math.MinInt}, {256, 255}, {65535, 65534}, {65535, 0}} {
		text, err := word.Text(nil, filled(c.size))
		if err != nil {
			t.Fatal(err)
		}
		for _, head := range [][]byte{{}, {5, 6}} {
			b := join(head, text, []byte{1, 2, 3, 4})
			r := word.Read(b)
			for range head {
				r.Word(1)
			}
			if s := r.Text(c.most); len(s) != 0 {
				t.Errorf("Text(%d) of %d bytes: %d bytes", c.most, c.size, len(s))
			}
			expectStuck(t, r, len(b)-len(head), len(head))
		}
	}
}

func TestReadersAreApart(t *testing.T) { // P1.2
	b := []byte{0, 1, 7, 8}
	bad, good := word.Read(b), word.Read(b)
	bad.Word(3)
	expectStuck(t, bad, 4, 0)
	if s := good.Text(1); string(s) != "\x07" {
		t.Errorf("Text(1): %v", s)
	}
	expect(t, good, 1, -1)
}

func TestWhatStandsAheadIsLeftAndNotShared(t *testing.T) { // P1.3
	for _, c := range []struct {
		name string
		call func(b []byte) ([]byte, error)
		put  []byte
	}{
		{"Put", func(b []byte) ([]byte, error) { return word.Put(b, 4, 0xfefefefe) }, []byte{254, 254, 254, 254}},
		{"Text", func(b []byte) ([]byte, error) { return word.Text(b, []byte("ab")) }, []byte{0, 2, 'a', 'b'}},
		{"a wrong Put", func(b []byte) ([]byte, error) { return word.Put(b, 3, 1) }, nil},
		{"a wrong Text", func(b []byte) ([]byte, error) { return word.Text(b, make([]byte, 65536)) }, nil},
	} {
		for _, size := range []int{0, 1, 32, 62, 64} {
			whole := filled(64)
			got, err := c.call(whole[:size])
			if !bytes.Equal(whole, filled(64)) {
				t.Fatalf("%s behind %d bytes changed b, or what stands behind it", c.name, size)
			}
			if err != nil {
				continue
			}
			clear(whole)
			if !bytes.Equal(got, join(filled(64)[:size], c.put)) {
				t.Errorf("%s behind %d bytes told memory of b", c.name, size)
			}
			clear(got[:cap(got)])
			again, _ := c.call(filled(64)[:size])
			if !bytes.Equal(again, join(filled(64)[:size], c.put)) {
				t.Errorf("%s behind %d bytes kept something", c.name, size)
			}
		}
	}
}

func TestTextLeavesAndSharesNothing(t *testing.T) { // P1.3
	for _, size := range []int{0, 1, 300, 65535, 65536} {
		s := filled(size)
		got, err := word.Text(nil, s)
		if !bytes.Equal(s, filled(size)) {
			t.Fatalf("Text changed s of %d bytes", size)
		}
		if err != nil {
			continue
		}
		clear(s)
		if !bytes.Equal(got[2:], filled(size)) {
			t.Errorf("Text told memory of s of %d bytes", size)
		}
	}
	// b and s may be the same bytes, or lie side by side.
	b := append(make([]byte, 0, 16), 1, 2, 3)
	got, err := word.Text(b[:1], b)
	if err != nil || !bytes.Equal(got, []byte{1, 0, 3, 1, 2, 3}) || !bytes.Equal(b, []byte{1, 2, 3}) {
		t.Errorf("Text(b[:1], b): %v, %v; b is %v", got, err, b)
	}
}

func TestReaderLeavesAndSharesNothing(t *testing.T) { // P1.3
	b := []byte{0, 3, 'a', 'b', 'c', 1, 2, 0, 1, 'd', 5}
	before := bytes.Clone(b)
	r := word.Read(b)
	s := r.Text(3)
	if r.Word(2) != 258 || string(r.Text(1)) != "d" || r.Word(8) != 0 || r.Text(1) != nil {
		t.Error("read otherwise than put")
	}
	if !bytes.Equal(b, before) {
		t.Fatalf("b was changed: %v", b)
	}
	s = append(s, 'x')
	s[0] = 'z'
	if !bytes.Equal(b, before) {
		t.Fatalf("what was told is memory of b: %v", b)
	}
	clear(b)
	if string(s) != "zbcx" {
		t.Errorf("what was told is memory of b: %q", s)
	}
	again := word.Read(before)
	first, second := again.Text(3), word.Read(before).Text(3)
	first[0] = 'q'
	if string(second) != "abc" {
		t.Errorf("two texts share memory: %q", second)
	}
}

func TestWhatWasPutIsReadAsItWas(t *testing.T) { // P1.4
	for _, wide := range widths {
		for bit := range 8 * wide {
			one := uint64(1) << bit
			for _, n := range []uint64{one, one - 1, greatest(wide) - one, greatest(wide) &^ (one - 1)} {
				b, err := word.Put(nil, wide, n)
				r := word.Read(b)
				if got := r.Word(wide); err != nil || got != n {
					t.Errorf("%d in a width of %d: read as %d, %v", n, wide, got, err)
				}
				expect(t, r, 0, -1)
			}
		}
	}
	for _, size := range []int{0, 1, 2, 255, 256, 257, 65534, 65535} {
		b, err := word.Text(nil, filled(size))
		r := word.Read(b)
		if got := r.Text(size); err != nil || !bytes.Equal(got, filled(size)) {
			t.Errorf("a text of %d bytes: read as %d bytes, %v", size, len(got), err)
		}
		expect(t, r, 0, -1)
	}
}

func TestManyThatWerePutAreReadInOrder(t *testing.T) { // P1.4
	var b []byte
	keep := func(out []byte, err error) {
		if err != nil {
			t.Fatal(err)
		}
		b = out
	}
	const rounds = 60
	for i := range rounds {
		wide := widths[i%4]
		keep(word.Put(b, wide, uint64(i)*0x9e3779b97f4a7c15&greatest(wide)))
		keep(word.Text(b, filled(i*11%300)))
	}
	r := word.Read(b)
	for i := range rounds {
		wide := widths[i%4]
		if n := r.Word(wide); n != uint64(i)*0x9e3779b97f4a7c15&greatest(wide) {
			t.Errorf("number %d: %d", i, n)
		}
		if s := r.Text(300); !bytes.Equal(s, filled(i*11%300)) {
			t.Errorf("text %d: %d bytes", i, len(s))
		}
	}
	expect(t, r, 0, -1)
}

// walk does a reader's calls, one for each byte of ops, and holds what is true
// of every reader: P1 of DOC.md and P1.2.
func walk(t *testing.T, b, ops []byte) {
	t.Helper()
	r := word.Read(b)
	mosts := []int{-1, 0, 1, 2, 300, math.MaxInt, math.MinInt}
	all := slices.Concat(widths, noWidths)
	for _, op := range ops {
		at, bad := len(b)-r.Left(), r.Bad()
		took := 0
		if x := int(op >> 1); op&1 == 0 {
			wide := all[x%len(all)]
			if n := r.Word(wide); r.Bad() < 0 {
				took = wide
			} else if n != 0 {
				t.Fatalf("Word(%d) told %d with a fault", wide, n)
			}
		} else if s := r.Text(mosts[x%len(mosts)]); r.Bad() < 0 {
			took = 2 + len(s)
		} else if len(s) != 0 {
			t.Fatalf("Text told %v with a fault", s)
		}
		if len(b)-r.Left() != at+took || r.Bad() >= 0 && r.Bad() != at || bad >= 0 && r.Bad() != bad {
			t.Fatalf("from %d, bad %d to %d, bad %d by %d bytes", at, bad, len(b)-r.Left(), r.Bad(), took)
		}
	}
}

func TestReadersEndAndDontPanic(t *testing.T) { // P1 of DOC.md
	for size := range 6 {
		for number := range 1 << (2 * size) {
			b := make([]byte, size)
			for i := range b {
				b[i] = byte(number >> (2 * i) & 3)
			}
			for op := range 64 {
				walk(t, b, []byte{byte(op), byte(op * 5), byte(op * 11), byte(op)})
			}
		}
	}
}

func FuzzReader(f *testing.F) {
	f.Add([]byte{0, 1, 'a', 1, 2, 3, 4}, []byte{9, 4, 0, 1, 6})
	f.Add([]byte{}, []byte{0, 1, 2, 3})
	f.Add([]byte{255, 255, 0}, []byte{11, 11, 8})
	f.Fuzz(func(t *testing.T, b, ops []byte) { walk(t, b, ops) })
}
