package crc_test

import (
	"bytes"
	"hash/crc32"
	"math"
	"math/bits"
	"testing"

	"tankard/api"
	"tankard/crc"
)

var sizes = []int{0, 1, 2, 3, 4, 5, 7, 8, 9, 63, 64, 255, 256, 257, 1000}

// filled is bytes that tell each of their places from those beside it.
func filled(n int) []byte {
	b := make([]byte, n)
	for i := range b {
		b[i] = byte(i*7 + i>>8 + 1)
	}
	return b
}

// samples are bytes of many sizes: all alike, and each another one.
func samples() [][]byte {
	all := [][]byte{nil, {}, []byte("123456789"), []byte("a")}
	for _, size := range sizes {
		all = append(all, make([]byte, size), bytes.Repeat([]byte{255}, size), filled(size))
	}
	return all
}

func join(parts ...[]byte) []byte { return bytes.Join(parts, nil) }

// sumBytes are a sum's bytes, as the chapter says: four, the highest first.
func sumBytes(sum uint32) []byte {
	return []byte{byte(sum >> 24), byte(sum >> 16), byte(sum >> 8), byte(sum)}
}

// expectRefused holds that x isn't opened, and that no bytes are told.
func expectRefused(t *testing.T, x []byte, want api.Code) {
	t.Helper()
	if b, err := crc.Open(x); err != want || len(b) != 0 {
		t.Errorf("Open(%d bytes): %d bytes, %v; want %v itself", len(x), len(b), err, want)
	}
}

func expectOpened(t *testing.T, x, want []byte) {
	t.Helper()
	if b, err := crc.Open(x); err != nil || !bytes.Equal(b, want) {
		t.Errorf("Open(%d bytes): %d bytes, %v", len(x), len(b), err)
	}
}

func TestSumOfKnownBytes(t *testing.T) { // P2.1
	for _, c := range []struct {
		b    []byte
		want uint32
	}{
		{nil, 0},
		{[]byte{}, 0},
		{[]byte("123456789"), 0xCBF43926},
		{[]byte("a"), 0xE8B7BE43},
		{[]byte("abc"), 0x352441C2},
		{[]byte{0}, 0xD202EF8D},
		{[]byte{255}, 0xFF000000},
		{[]byte{0, 0, 0, 0}, 0x2144DF1C},
		{[]byte{255, 255, 255, 255}, 0xFFFFFFFF},
	} {
		if n := crc.Sum(c.b); n != c.want {
			t.Errorf("Sum(%v): %08X, want %08X", c.b, n, c.want)
		}
	}
}

func TestSumOfOneByte(t *testing.T) { // P2.1
	for x := range 256 {
		b := []byte{byte(x)}
		if n := crc.Sum(b); n != crc32.ChecksumIEEE(b) {
			t.Errorf("Sum(%v): %08X, want %08X", b, n, crc32.ChecksumIEEE(b))
		}
	}
}

func TestSumOfMany(t *testing.T) { // P2.1
	for _, b := range append(samples(), filled(1<<20)) {
		if n := crc.Sum(b); n != crc32.ChecksumIEEE(b) {
			t.Errorf("Sum(%d bytes): %08X, want %08X", len(b), n, crc32.ChecksumIEEE(b))
		}
	}
}

func TestOnGoesOnWithTheOthers(t *testing.T) { // P2.1
	for _, head := range samples() {
		for _, b := range samples() {
			want := crc32.ChecksumIEEE(join(head, b))
			if n := crc.On(crc.Sum(head), b); n != want {
				t.Errorf("On(sum of %d bytes, %d bytes): %08X, want %08X", len(head), len(b), n, want)
			}
		}
	}
}

func TestOnGoesOnInSeveralParts(t *testing.T) { // P2.1
	whole := filled(1000)
	want := crc32.ChecksumIEEE(whole)
	for _, part := range []int{1, 2, 3, 7, 64, 333, 999, 1000} {
		sum := crc.Sum(nil)
		for at := 0; at < len(whole); at += part {
			sum = crc.On(sum, whole[at:min(at+part, len(whole))])
			sum = crc.On(sum, nil)
		}
		if sum != want {
			t.Errorf("parts of %d bytes: %08X, want %08X", part, sum, want)
		}
	}
	for at := range len(whole) + 1 {
		if n := crc.On(crc.Sum(whole[:at]), whole[at:]); n != want {
			t.Errorf("parted at %d: %08X, want %08X", at, n, want)
		}
	}
}

func TestOnAtAnySum(t *testing.T) { // P2.1
	sums := []uint32{0, 1, 2, 0x7FFFFFFF, 0x80000000, 0xEDB88320, math.MaxUint32 - 1, math.MaxUint32}
	for bit := range 32 {
		sums = append(sums, 1<<bit, ^uint32(1<<bit))
	}
	for _, sum := range sums {
		for _, none := range [][]byte{nil, {}} {
			if n := crc.On(sum, none); n != sum {
				t.Errorf("On(%08X, no bytes): %08X", sum, n)
			}
		}
		for _, b := range samples() {
			if n, want := crc.On(sum, b), crc32.Update(sum, crc32.IEEETable, b); n != want {
				t.Errorf("On(%08X, %d bytes): %08X, want %08X", sum, len(b), n, want)
			}
		}
	}
}

func TestSealPutsTheSumBehind(t *testing.T) { // P2.1
	for _, c := range []struct {
		b, want []byte
	}{
		{nil, []byte{0, 0, 0, 0}},
		{[]byte{}, []byte{0, 0, 0, 0}},
		{[]byte("a"), []byte("a\xe8\xb7\xbe\x43")},
		{[]byte("123456789"), []byte("123456789\xcb\xf4\x39\x26")},
		{[]byte{255}, []byte{255, 255, 0, 0, 0}},
	} {
		if x := crc.Seal(c.b); !bytes.Equal(x, c.want) {
			t.Errorf("Seal(%v): %v, want %v", c.b, x, c.want)
		}
	}
	for _, b := range samples() {
		if x := crc.Seal(b); !bytes.Equal(x, join(b, sumBytes(crc32.ChecksumIEEE(b)))) {
			t.Errorf("Seal(%d bytes): %d bytes", len(b), len(x))
		}
	}
}

func TestOpenNeedsFourBytes(t *testing.T) { // P2.2
	expectRefused(t, nil, api.ErrForm)
	for size := range 4 {
		for _, x := range []byte{0, 1, 255} {
			expectRefused(t, bytes.Repeat([]byte{x}, size), api.ErrForm)
		}
		expectRefused(t, crc.Seal(nil)[:size], api.ErrForm)
		// What stands behind x, in its spare room, isn't part of it.
		expectRefused(t, crc.Seal([]byte("abc"))[:size], api.ErrForm)
		expectRefused(t, make([]byte, size, 16), api.ErrForm)
	}
}

func TestOpenAtJustFourBytes(t *testing.T) { // P2.2
	expectOpened(t, []byte{0, 0, 0, 0}, nil)
	for bit := range 32 {
		expectRefused(t, sumBytes(1<<bit), api.ErrSum)
	}
	for _, x := range [][]byte{{255, 255, 255, 255}, {0x21, 0x44, 0xDF, 0x1C}, {1, 2, 3, 4}} {
		expectRefused(t, x, api.ErrSum)
	}
}

func TestOpenTellsTheOthers(t *testing.T) { // P2.2
	expectOpened(t, []byte("a\xe8\xb7\xbe\x43"), []byte("a"))
	expectOpened(t, []byte("123456789\xcb\xf4\x39\x26"), []byte("123456789"))
	for _, b := range samples() {
		expectOpened(t, join(b, sumBytes(crc32.ChecksumIEEE(b))), b)
	}
}

func TestOpenRefusesAnotherSum(t *testing.T) { // P2.2
	for _, b := range samples() {
		sum := crc32.ChecksumIEEE(b)
		for _, other := range []uint32{sum + 1, sum - 1, ^sum, sum ^ 1<<31, sum ^ 1<<16} {
			expectRefused(t, join(b, sumBytes(other)), api.ErrSum)
		}
		if len(b) > 0 {
			s := sumBytes(sum)
			// Some sums, as that of four bytes of 255, are the same both ways.
			if turned := bits.ReverseBytes32(sum); turned != sum {
				expectRefused(t, join(b, sumBytes(turned)), api.ErrSum)
			}
			expectRefused(t, join(s, b, []byte{1, 2, 3, 4}), api.ErrSum)
			expectRefused(t, append(crc.Seal(b), 7), api.ErrSum)
		}
	}
	expectRefused(t, []byte("a\xe8\xb7\xbe\x44"), api.ErrSum)
	expectRefused(t, []byte("123456788\xcb\xf4\x39\x26"), api.ErrSum)
}

func TestNothingHandedInIsChanged(t *testing.T) { // P2.3
	for _, size := range sizes {
		// The room behind is the caller's, too.
		whole := append(filled(size), filled(64)...)
		before := bytes.Clone(whole)
		b := whole[:size]
		crc.Sum(b)
		crc.On(5, b)
		crc.Seal(b)
		crc.Open(b)
		if !bytes.Equal(whole, before) {
			t.Fatalf("%d bytes, or what stands behind them, were changed", size)
		}
		sealed := append(crc.Seal(b), filled(64)...)
		before = bytes.Clone(sealed)
		expectOpened(t, sealed[:size+4], b)
		sealed[size]++
		before[size]++
		expectRefused(t, sealed[:size+4], api.ErrSum)
		if !bytes.Equal(sealed, before) {
			t.Fatalf("%d sealed bytes, or what stands behind them, were changed", size)
		}
	}
}

func TestSealTellsNewMemory(t *testing.T) { // P2.3
	for _, size := range sizes {
		b := append(filled(size), filled(64)...)[:size]
		x, y := crc.Seal(b), crc.Seal(b)
		want := bytes.Clone(x)
		clear(b[:cap(b)])
		clear(y[:cap(y)])
		if !bytes.Equal(x, want) {
			t.Errorf("Seal(%d bytes) told memory of b, or of another answer", size)
		}
		b = append(filled(size), filled(64)...)[:size]
		clear(x[:cap(x)])
		if !bytes.Equal(crc.Seal(b), want) || !bytes.Equal(b[:size+64], append(filled(size), filled(64)...)) {
			t.Errorf("Seal(%d bytes) kept something", size)
		}
	}
}

func TestOpenTellsNewMemory(t *testing.T) { // P2.3
	for _, size := range sizes {
		sealed := crc.Seal(filled(size))
		x := append(bytes.Clone(sealed), filled(64)...)[:size+4]
		b, err := crc.Open(x)
		again, _ := crc.Open(x)
		if err != nil {
			t.Fatal(err)
		}
		// An append, too, has to leave x alone.
		again = append(again, 9, 9, 9)
		clear(again[:cap(again)])
		if !bytes.Equal(x, sealed) || !bytes.Equal(x[:size+68][size+4:], filled(64)) {
			t.Errorf("Open at %d bytes told memory of x", size)
		}
		clear(x[:cap(x)])
		if !bytes.Equal(b, filled(size)) {
			t.Errorf("Open at %d bytes told memory of x, or of another answer", size)
		}
	}
}

func TestWhatIsSealedIsOpenedAsItWas(t *testing.T) { // P2.4
	for _, b := range append(samples(), filled(1<<20)) {
		x := crc.Seal(b)
		expectOpened(t, x, b)
		// What is sealed may be sealed again.
		expectOpened(t, crc.Seal(x), x)
	}
	for x := range 256 {
		expectOpened(t, crc.Seal([]byte{byte(x)}), []byte{byte(x)})
	}
}

func TestOneOtherByteIsntOpened(t *testing.T) { // P2.4
	for _, size := range []int{0, 1, 2, 3, 4, 9, 64} {
		for _, b := range [][]byte{make([]byte, size), bytes.Repeat([]byte{255}, size), filled(size)} {
			x := crc.Seal(b)
			for i, was := range x {
				for by := 1; by < 256; by++ {
					x[i] = was ^ byte(by)
					expectRefused(t, x, api.ErrSum)
				}
				x[i] = was
			}
			expectOpened(t, x, b)
		}
	}
}

// hold holds what is true of all bytes: P1 of DOC.md, P2.1, P2.2 and P2.4.
func hold(t *testing.T, x []byte, sum uint32) {
	t.Helper()
	if n := crc.On(sum, x); n != crc32.Update(sum, crc32.IEEETable, x) {
		t.Fatalf("On(%08X, %v): %08X", sum, x, n)
	}
	expectOpened(t, crc.Seal(x), x)
	if len(x) < 4 {
		expectRefused(t, x, api.ErrForm)
		return
	}
	b, last := x[:len(x)-4], x[len(x)-4:]
	if bytes.Equal(last, sumBytes(crc32.ChecksumIEEE(b))) {
		expectOpened(t, x, b)
	} else {
		expectRefused(t, x, api.ErrSum)
	}
}

func TestNoBytesMakeItPanic(t *testing.T) { // P1 of DOC.md
	hold(t, nil, 0)
	for size := range 7 {
		for number := range 1 << (2 * size) {
			x := make([]byte, size)
			for i := range x {
				x[i] = []byte{0, 1, 128, 255}[number>>(2*i)&3]
			}
			hold(t, x, uint32(number)*0x9E3779B9)
		}
	}
}

func FuzzOpen(f *testing.F) {
	f.Add([]byte{}, uint32(0))
	f.Add([]byte("a\xe8\xb7\xbe\x43"), uint32(1))
	f.Add([]byte{0, 0, 0, 0}, uint32(math.MaxUint32))
	f.Fuzz(hold)
}
