package meta_test

import (
	"bytes"
	"encoding/binary"
	"fmt"
	"hash/crc32"
	"math"
	"math/rand"
	"regexp"
	"strconv"
	"strings"
	"testing"

	"tankard/api"
	"tankard/meta"
	"tankard/store"
)

const (
	maxTime   = 1 << 40
	maxTraces = 64
	maxPages  = 200
	maxLevel  = 10
)

// metas are metas that may be: ordinary ones, and at each bound.
func metas() []api.Meta {
	return []api.Meta{
		{Id: 5, Level: 2, Start: 7, End: 9, Pages: 2, Traces: 3},
		{Id: 1, Pages: 1, Traces: 1},
		{Id: math.MaxUint64, Level: maxLevel, Start: maxTime, End: maxTime, Pages: maxPages, Traces: maxPages * maxTraces},
		{Id: 1 << 63, Level: 1, Start: 0, End: maxTime, Pages: maxPages, Traces: maxPages},
		{Id: 1<<63 - 1, Level: maxLevel - 1, Start: maxTime - 1, End: maxTime, Pages: 1, Traces: maxTraces},
		{Id: 0x0102030405060708, Level: 9, Start: 0x0a0b0c0d0e, End: 0x0a0b0c0d0f, Pages: 0xa1, Traces: 0x1234},
		{Id: 256, Level: 0, Start: 3, End: 3, Pages: 199, Traces: 199 * maxTraces},
		{Id: 1 << 32, Level: 5, Start: 1<<32 - 1, End: 1 << 32, Pages: 5, Traces: 256},
	}
}

// wrongMetas are metas that may not be, each by one thing alone.
func wrongMetas() []api.Meta {
	good := api.Meta{Id: 5, Level: 2, Start: 7, End: 9, Pages: 2, Traces: 3}
	var l []api.Meta
	but := func(change func(m *api.Meta)) {
		m := good
		change(&m)
		l = append(l, m)
	}
	but(func(m *api.Meta) { m.Id = 0 })
	for _, n := range []int{-1, -2, maxLevel + 1, 12, 255, 256, 258, math.MinInt, math.MaxInt} {
		but(func(m *api.Meta) { m.Level = n })
	}
	for _, n := range []int64{-1, -7, 10, 11, maxTime, maxTime + 1, math.MinInt64, math.MaxInt64} {
		but(func(m *api.Meta) { m.Start = n })
	}
	for _, n := range []int64{6, 0, -1, maxTime + 1, 2 * maxTime, math.MinInt64, math.MaxInt64} {
		but(func(m *api.Meta) { m.End = n })
	}
	but(func(m *api.Meta) { m.Start, m.End = maxTime+1, maxTime+1 })
	but(func(m *api.Meta) { m.Start, m.End = -2, -1 })
	for _, n := range []int{0, -1, 4, maxPages, maxPages + 1, 65536, 65538, math.MinInt, math.MaxInt} {
		but(func(m *api.Meta) { m.Pages = n })
	}
	for _, n := range []int{0, 1, -1, 2*maxTraces + 1, 1<<32 + 3, math.MinInt, math.MaxInt} {
		but(func(m *api.Meta) { m.Traces = n })
	}
	but(func(m *api.Meta) { m.Pages, m.Traces = 0, 0 })
	but(func(m *api.Meta) { m.Pages, m.Traces = -1, -1 })
	but(func(m *api.Meta) { m.Pages, m.Traces = -1, -maxTraces })
	but(func(m *api.Meta) { m.Pages, m.Traces = 1, maxTraces+1 })
	but(func(m *api.Meta) { m.Pages, m.Traces = maxPages, maxPages-1 })
	but(func(m *api.Meta) { m.Pages, m.Traces = maxPages, maxPages*maxTraces+1 })
	but(func(m *api.Meta) { m.Pages, m.Traces = maxPages+1, maxPages+1 })
	but(func(m *api.Meta) { m.Pages, m.Traces = maxPages+1, (maxPages+1)*maxTraces })
	but(func(m *api.Meta) { m.Pages, m.Traces = math.MaxInt, math.MaxInt })
	but(func(m *api.Meta) { m.Pages, m.Traces = math.MinInt, math.MinInt })
	but(func(m *api.Meta) { m.Pages, m.Traces = math.MinInt, 0 })
	return append(l, api.Meta{})
}

// markers are markers that may be.
func markers() []api.Marker {
	return []api.Marker{
		{Id: 5, At: 3, By: 6},
		{Id: 1},
		{Id: 5, At: maxTime, By: 0},
		{Id: 5, At: 0, By: 4},
		{Id: 1, At: maxTime - 1, By: math.MaxUint64},
		{Id: math.MaxUint64, At: 1, By: 1},
		{Id: 1 << 63, At: 1 << 32, By: 1<<63 - 1},
		{Id: 0x0102030405060708, At: 0x0a0b0c0d0e, By: 0xf1f2f3f4f5f6f7f8},
	}
}

// wrongMarkers are markers that may not be.
func wrongMarkers() []api.Marker {
	return []api.Marker{
		{},
		{Id: 0, At: 3, By: 6},
		{Id: 0, At: 3, By: 0},
		{Id: 5, At: -1, By: 6},
		{Id: 5, At: maxTime + 1, By: 6},
		{Id: 5, At: 2 * maxTime, By: 6},
		{Id: 5, At: math.MinInt64, By: 6},
		{Id: 5, At: math.MaxInt64, By: 6},
		{Id: 5, At: 3, By: 5},
		{Id: 1, At: 0, By: 1},
		{Id: math.MaxUint64, At: maxTime, By: math.MaxUint64},
	}
}

// mayBe is the chapter's rule of metas.
func mayBe(m api.Meta) bool {
	if m.Id < 1 || m.Level < 0 || m.Level > maxLevel {
		return false
	}
	if m.Start < 0 || m.Start > m.End || m.End > maxTime {
		return false
	}
	if m.Pages < 1 || m.Pages > maxPages {
		return false
	}
	return m.Pages <= m.Traces && m.Traces <= 64*m.Pages
}

// isFair is that of markers.
func isFair(m api.Marker) bool {
	if m.Id < 1 || m.By == m.Id {
		return false
	}
	return m.At >= 0 && m.At <= maxTime
}

func sealed(b []byte) []byte {
	return binary.BigEndian.AppendUint32(bytes.Clone(b), crc32.ChecksumIEEE(b))
}

// rawMeta is the bytes, ahead of their sum, of what needn't be a meta.
func rawMeta(id, start, end uint64, level uint8, pages uint16, traces uint32) []byte {
	b := binary.BigEndian.AppendUint64(nil, id)
	b = binary.BigEndian.AppendUint64(b, start)
	b = binary.BigEndian.AppendUint64(b, end)
	b = append(b, level)
	b = binary.BigEndian.AppendUint16(b, pages)
	return binary.BigEndian.AppendUint32(b, traces)
}

func rawOf(m api.Meta) []byte {
	return rawMeta(m.Id, uint64(m.Start), uint64(m.End), uint8(m.Level), uint16(m.Pages), uint32(m.Traces))
}

// rawMarker is the bytes, ahead of their sum, of what needn't be a marker.
func rawMarker(id, at, by uint64) []byte {
	b := binary.BigEndian.AppendUint64(nil, id)
	b = binary.BigEndian.AppendUint64(b, at)
	return binary.BigEndian.AppendUint64(b, by)
}

// gottenMeta is the meta of these bytes, and whether they are one's.
func gottenMeta(b []byte) (api.Meta, bool) {
	if len(b) != 31 {
		return api.Meta{}, false
	}
	m := api.Meta{
		Id:     binary.BigEndian.Uint64(b),
		Start:  int64(binary.BigEndian.Uint64(b[8:])),
		End:    int64(binary.BigEndian.Uint64(b[16:])),
		Level:  int(b[24]),
		Pages:  int(binary.BigEndian.Uint16(b[25:])),
		Traces: int(binary.BigEndian.Uint32(b[27:])),
	}
	return m, mayBe(m)
}

// gottenMarker is the marker of these bytes, and whether they are one's.
func gottenMarker(b []byte) (api.Marker, bool) {
	if len(b) != 24 {
		return api.Marker{}, false
	}
	m := api.Marker{
		Id: binary.BigEndian.Uint64(b),
		At: int64(binary.BigEndian.Uint64(b[8:])),
		By: binary.BigEndian.Uint64(b[16:]),
	}
	return m, isFair(m)
}

func put(t testing.TB, m api.Meta) []byte {
	t.Helper()
	x, err := meta.Put(m)
	if err != nil {
		t.Fatalf("Put(%v): %v", m, err)
	}
	return x
}

func mark(t testing.TB, m api.Marker) []byte {
	t.Helper()
	x, err := meta.Mark(m)
	if err != nil {
		t.Fatalf("Mark(%v): %v", m, err)
	}
	return x
}

func expectMeta(t testing.TB, x []byte, want api.Meta) {
	t.Helper()
	if m, err := meta.Get(x); err != nil || m != want {
		t.Errorf("Get(%x): %v, %v; want %v", x, m, err, want)
	}
}

func expectNoMeta(t testing.TB, x []byte, want api.Code) {
	t.Helper()
	if m, err := meta.Get(x); err != error(want) || m != (api.Meta{}) {
		t.Errorf("Get(%x): %v, %v; want %v", x, m, err, want)
	}
}

func expectMarker(t testing.TB, x []byte, want api.Marker) {
	t.Helper()
	if m, err := meta.Marked(x); err != nil || m != want {
		t.Errorf("Marked(%x): %v, %v; want %v", x, m, err, want)
	}
}

func expectNoMarker(t testing.TB, x []byte, want api.Code) {
	t.Helper()
	if m, err := meta.Marked(x); err != error(want) || m != (api.Marker{}) {
		t.Errorf("Marked(%x): %v, %v; want %v", x, m, err, want)
	}
}

func expectNeither(t testing.TB, x []byte, want api.Code) {
	t.Helper()
	expectNoMeta(t, x, want)
	expectNoMarker(t, x, want)
}

func TestExample(t *testing.T) { // P13.2
	if s := meta.Name(255, "m", 0); s != "b/00000000000000ff/m" {
		t.Error(s)
	}
}

func TestMay(t *testing.T) { // P13.1
	for _, m := range metas() {
		if !meta.May(m) {
			t.Errorf("%v may not be", m)
		}
	}
	for _, m := range wrongMetas() {
		if meta.May(m) {
			t.Errorf("%v may be", m)
		}
	}
}

func TestMayOfAllThatIsNearTheBounds(t *testing.T) { // P13.1
	times := []int64{-1, 0, 1, maxTime - 1, maxTime, maxTime + 1}
	for _, id := range []uint64{0, 1, 2, math.MaxUint64} {
		for _, level := range []int{-1, 0, 1, maxLevel - 1, maxLevel, maxLevel + 1} {
			for _, start := range times {
				for _, end := range times {
					for _, pages := range []int{-1, 0, 1, 2, maxPages - 1, maxPages, maxPages + 1} {
						for d := -1; d <= 1; d++ {
							least := api.Meta{Id: id, Level: level, Start: start, End: end, Pages: pages, Traces: pages + d}
							most := least
							most.Traces = pages*maxTraces + d
							if meta.May(least) != mayBe(least) || meta.May(most) != mayBe(most) {
								t.Fatalf("May of %v, or %v", least, most)
							}
						}
					}
				}
			}
		}
	}
}

func TestFair(t *testing.T) { // P13.1
	for _, m := range markers() {
		if !meta.Fair(m) {
			t.Errorf("%v may not be", m)
		}
	}
	for _, m := range wrongMarkers() {
		if meta.Fair(m) {
			t.Errorf("%v may be", m)
		}
	}
	ids := []uint64{0, 1, 2, 3, 1<<63 - 1, 1 << 63, math.MaxUint64 - 1, math.MaxUint64}
	for _, id := range ids {
		for _, by := range ids {
			for _, at := range []int64{math.MinInt64, -1, 0, 1, maxTime - 1, maxTime, maxTime + 1, math.MaxInt64} {
				m := api.Marker{Id: id, At: at, By: by}
				if meta.Fair(m) != isFair(m) {
					t.Errorf("Fair(%v): %v", m, meta.Fair(m))
				}
			}
		}
	}
}

func TestPut(t *testing.T) { // P13.1
	for _, m := range metas() {
		if x := put(t, m); !bytes.Equal(x, sealed(rawOf(m))) {
			t.Errorf("Put(%v): %x", m, x)
		}
	}
	m := api.Meta{Id: 0x0102030405060708, Level: 9, Start: 0x0a0b0c0d0e, End: 0x0f0b0c0d0e, Pages: 0xa1, Traces: 0x1234}
	want := sealed([]byte{
		1, 2, 3, 4, 5, 6, 7, 8,
		0, 0, 0, 10, 11, 12, 13, 14,
		0, 0, 0, 15, 11, 12, 13, 14,
		9,
		0, 0xa1,
		0, 0, 0x12, 0x34,
	})
	if x := put(t, m); !bytes.Equal(x, want) {
		t.Errorf("%x; want %x", x, want)
	}
}

func TestPutOfWhatMayNotBe(t *testing.T) { // P13.1
	for _, m := range wrongMetas() {
		if x, err := meta.Put(m); err != error(api.ErrArg) || len(x) > 0 {
			t.Errorf("Put(%v): %x, %v; want ErrArg", m, x, err)
		}
	}
}

func TestMark(t *testing.T) { // P13.1
	for _, m := range markers() {
		if x := mark(t, m); !bytes.Equal(x, sealed(rawMarker(m.Id, uint64(m.At), m.By))) {
			t.Errorf("Mark(%v): %x", m, x)
		}
	}
	want := sealed([]byte{
		1, 2, 3, 4, 5, 6, 7, 8,
		0, 0, 0, 10, 11, 12, 13, 14,
		0xf1, 2, 3, 4, 5, 6, 7, 8,
	})
	if x := mark(t, api.Marker{Id: 0x0102030405060708, At: 0x0a0b0c0d0e, By: 0xf102030405060708}); !bytes.Equal(x, want) {
		t.Errorf("%x; want %x", x, want)
	}
}

func TestMarkOfWhatMayNotBe(t *testing.T) { // P13.1
	for _, m := range wrongMarkers() {
		if x, err := meta.Mark(m); err != error(api.ErrArg) || len(x) > 0 {
			t.Errorf("Mark(%v): %x, %v; want ErrArg", m, x, err)
		}
	}
}

func TestGetAndMarked(t *testing.T) { // P13.1
	for _, m := range metas() {
		expectMeta(t, sealed(rawOf(m)), m)
	}
	for _, m := range markers() {
		expectMarker(t, sealed(rawMarker(m.Id, uint64(m.At), m.By)), m)
	}
}

func TestTooFewBytesToOpen(t *testing.T) { // P13.1
	for _, x := range [][]byte{nil, {}, {0}, {0, 0}, {0, 0, 0}} {
		expectNeither(t, x, api.ErrForm)
	}
}

func TestAnotherSum(t *testing.T) { // P13.1
	var all [][]byte
	for _, m := range metas() {
		all = append(all, put(t, m))
	}
	for _, m := range markers() {
		all = append(all, mark(t, m))
	}
	for _, x := range all {
		for i := range x {
			for bit := range 8 {
				x[i] ^= 1 << bit
				expectNeither(t, x, api.ErrSum)
				x[i] ^= 1 << bit
			}
		}
		// Some of these are sealed by chance: four bytes of 0 are no bytes', sealed.
		for n := range x {
			expectHeld(t, x[:n])
			expectHeld(t, x[n:])
		}
		expectNeither(t, append(bytes.Clone(x), 0), api.ErrSum)
	}
}

func TestOpensErrorIsToldFirst(t *testing.T) { // P13.1, R1
	// These are neither sealed nor of the form.
	for _, b := range [][]byte{{}, {1}, make([]byte, 24), make([]byte, 31), make([]byte, 40)} {
		x := sealed(b)
		x[len(x)-1] ^= 1
		expectNeither(t, x, api.ErrSum)
	}
}

func TestGetOfAMetaThatMayNotBe(t *testing.T) { // P13.1
	const top = 1 << 63
	for _, b := range [][]byte{
		rawMeta(0, 7, 9, 2, 2, 3),
		rawMeta(5, 10, 9, 2, 2, 3),
		rawMeta(5, 7, maxTime+1, 2, 2, 3),
		rawMeta(5, maxTime+1, maxTime+1, 2, 2, 3),
		// Times that don't fit a number with a sign.
		rawMeta(5, top, 9, 2, 2, 3),
		rawMeta(5, top+7, 9, 2, 2, 3),
		rawMeta(5, 7, top+9, 2, 2, 3),
		rawMeta(5, top+7, top+9, 2, 2, 3),
		rawMeta(5, math.MaxUint64, 9, 2, 2, 3),
		rawMeta(5, math.MaxUint64, math.MaxUint64, 2, 2, 3),
		rawMeta(5, 7, math.MaxUint64, 2, 2, 3),
		rawMeta(5, 7, 9, maxLevel+1, 2, 3),
		rawMeta(5, 7, 9, 128, 2, 3),
		rawMeta(5, 7, 9, 255, 2, 3),
		rawMeta(5, 7, 9, 2, 0, 0),
		rawMeta(5, 7, 9, 2, 0, 1),
		rawMeta(5, 7, 9, 2, maxPages+1, maxPages+1),
		rawMeta(5, 7, 9, 2, 65535, 65535),
		rawMeta(5, 7, 9, 2, 258, 258),
		rawMeta(5, 7, 9, 2, 2, 0),
		rawMeta(5, 7, 9, 2, 2, 1),
		rawMeta(5, 7, 9, 2, 2, 2*maxTraces+1),
		rawMeta(5, 7, 9, 2, 2, 1<<16+3),
		rawMeta(5, 7, 9, 2, 2, 1<<31+3),
		rawMeta(5, 7, 9, 2, 2, math.MaxUint32),
		rawMeta(5, 7, 9, 2, maxPages, maxPages*maxTraces+1),
		make([]byte, 31),
		bytes.Repeat([]byte{255}, 31),
	} {
		expectNoMeta(t, sealed(b), api.ErrForm)
	}
}

func TestMarkedOfAMarkerThatMayNotBe(t *testing.T) { // P13.1
	const top = 1 << 63
	for _, b := range [][]byte{
		rawMarker(0, 3, 6),
		rawMarker(0, 3, 0),
		rawMarker(5, 3, 5),
		rawMarker(math.MaxUint64, 3, math.MaxUint64),
		rawMarker(5, maxTime+1, 6),
		rawMarker(5, top, 6),
		rawMarker(5, top+3, 6),
		rawMarker(5, math.MaxUint64, 6),
		make([]byte, 24),
		bytes.Repeat([]byte{255}, 24),
	} {
		expectNoMarker(t, sealed(b), api.ErrForm)
	}
}

func TestBytesThatAreCutOrLeft(t *testing.T) { // P13.1
	var all [][]byte
	for _, m := range metas() {
		all = append(all, rawOf(m))
	}
	for _, b := range all {
		for n := range b {
			expectNoMeta(t, sealed(b[:n]), api.ErrForm)
		}
		for n := range 40 {
			expectNoMeta(t, sealed(append(bytes.Clone(b), make([]byte, n+1)...)), api.ErrForm)
			expectNoMeta(t, sealed(append(bytes.Clone(b), bytes.Repeat([]byte{255}, n+1)...)), api.ErrForm)
		}
		expectNeither(t, sealed(sealed(b)), api.ErrForm)
		expectNoMarker(t, sealed(b), api.ErrForm)
	}
	for _, m := range markers() {
		b := rawMarker(m.Id, uint64(m.At), m.By)
		for n := range b {
			expectNoMarker(t, sealed(b[:n]), api.ErrForm)
		}
		for n := range 40 {
			expectNoMarker(t, sealed(append(bytes.Clone(b), make([]byte, n+1)...)), api.ErrForm)
			expectNoMarker(t, sealed(append(bytes.Clone(b), bytes.Repeat([]byte{255}, n+1)...)), api.ErrForm)
		}
		expectNeither(t, sealed(sealed(b)), api.ErrForm)
		expectNoMeta(t, sealed(b), api.ErrForm)
	}
}

// ids are Ids for names, with 0, which is no block's, but has its digits.
var ids = []uint64{0, 1, 9, 10, 15, 16, 160, 255, 256, 0x0123456789abcdef, 0xfedcba9876543210, 1<<63 - 1, 1 << 63, math.MaxUint64 - 1, math.MaxUint64}

var single = []string{"m", "i", "f", "x"}

func TestName(t *testing.T) { // P13.2
	for _, id := range ids {
		block := fmt.Sprintf("b/%016x/", id)
		for _, what := range single {
			// A page is of no matter there.
			for _, n := range []int{0, 1, 7, 999, 1000, -1, math.MinInt, math.MaxInt} {
				if s := meta.Name(id, what, n); s != block+what {
					t.Errorf("Name(%d, %s, %d): %s", id, what, n, s)
				}
			}
		}
		for n := range 1000 {
			if s, want := meta.Name(id, "p", n), block+fmt.Sprintf("p%03d", n); s != want {
				t.Errorf("Name(%d, p, %d): %s; want %s", id, n, s, want)
			}
		}
	}
}

func TestNameOfAPageBeyondItsDigits(t *testing.T) { // P13.2
	for n, want := range map[int]string{
		-1:            "p000",
		-7:            "p000",
		-999:          "p000",
		-1000:         "p000",
		-1001:         "p000",
		math.MinInt:   "p000",
		999:           "p999",
		1000:          "p000",
		1001:          "p001",
		1999:          "p999",
		2000:          "p000",
		12345:         "p345",
		math.MaxInt32: "p647",
		math.MaxInt64: "p807",
	} {
		if s := meta.Name(255, "p", n); s != "b/00000000000000ff/"+want {
			t.Errorf("Name(255, p, %d): %s; want %s", n, s, want)
		}
	}
}

func TestNameOfAnotherWhat(t *testing.T) { // P13.2
	others := []string{"", "mm", "pp", "p0", "p000", "mi", "m ", " m", "m/", "/m", "meta", "page", "m\x00", "é", "\xff", strings.Repeat("m", 1000)}
	for c := range 256 {
		what := string([]byte{byte(c)})
		if !strings.Contains("mifxp", what) {
			others = append(others, what)
		}
	}
	for _, what := range others {
		for _, n := range []int{0, 7, -1, 1000} {
			if s := meta.Name(255, what, n); s != "" {
				t.Errorf("Name(255, %q, %d): %q", what, n, s)
			}
		}
	}
}

var form = regexp.MustCompile(`\Ab/([0-9a-f]{16})/(?:([mifx])|(p)([0-9]{3}))\z`)

// parsed is what the chapter tells of a name.
func parsed(name string) (uint64, string, int, bool) {
	l := form.FindStringSubmatch(name)
	if l == nil {
		return 0, "", 0, false
	}
	id, err := strconv.ParseUint(l[1], 16, 64)
	if err != nil {
		panic(err)
	}
	if l[2] != "" {
		return id, l[2], 0, true
	}
	page, err := strconv.Atoi(l[4])
	if err != nil {
		panic(err)
	}
	return id, l[3], page, true
}

func expectParsed(t testing.TB, name string) {
	t.Helper()
	id, what, page, is := meta.Parse(name)
	wantId, wantWhat, wantPage, want := parsed(name)
	if id != wantId || what != wantWhat || page != wantPage || is != want {
		t.Errorf("Parse(%q): %d, %q, %d, %v; want %d, %q, %d, %v", name, id, what, page, is, wantId, wantWhat, wantPage, want)
	}
}

func expectNoName(t testing.TB, name string) {
	t.Helper()
	if id, what, page, is := meta.Parse(name); id != 0 || what != "" || page != 0 || is {
		t.Errorf("Parse(%q): %d, %q, %d, %v", name, id, what, page, is)
	}
}

func TestParse(t *testing.T) { // P13.2
	for name, want := range map[string]struct {
		id   uint64
		what string
		page int
	}{
		"b/00000000000000ff/m":    {255, "m", 0},
		"b/00000000000000a0/p007": {160, "p", 7},
		"b/0000000000000001/i":    {1, "i", 0},
		"b/ffffffffffffffff/f":    {math.MaxUint64, "f", 0},
		"b/0123456789abcdef/x":    {0x0123456789abcdef, "x", 0},
		"b/8000000000000000/p000": {1 << 63, "p", 0},
		"b/0000000000000000/m":    {0, "m", 0},
		"b/0000000000000000/p000": {0, "p", 0},
		"b/ffffffffffffffff/p199": {math.MaxUint64, "p", 199},
		// More than a block has pages, but digits of a page all the same.
		"b/ffffffffffffffff/p200": {math.MaxUint64, "p", 200},
		"b/ffffffffffffffff/p999": {math.MaxUint64, "p", 999},
		"b/ffffffffffffffff/p100": {math.MaxUint64, "p", 100},
		"b/ffffffffffffffff/p010": {math.MaxUint64, "p", 10},
	} {
		id, what, page, is := meta.Parse(name)
		if id != want.id || what != want.what || page != want.page || !is {
			t.Errorf("Parse(%s): %d, %s, %d, %v; want %v", name, id, what, page, is, want)
		}
	}
}

func TestParseOfNoName(t *testing.T) { // P13.2
	for _, name := range []string{
		"", "b", "b/", "b//", "/", "m", "b/m", "b/1/m", "b//m",
		"b/ffffffffffffffff", "b/ffffffffffffffff/", "b/ffffffffffffffff/p", "b/ffffffffffffffff/p1", "b/ffffffffffffffff/p12",
		"b/ffffffffffffffff/p0007", "b/ffffffffffffffff/p1007", "b/ffffffffffffffff/p0000", "b/ffffffffffffffff/p99999999999999999999",
		"b/ffffffffffffffff/p+07", "b/ffffffffffffffff/p-07", "b/ffffffffffffffff/p-00", "b/ffffffffffffffff/p 07", "b/ffffffffffffffff/p07 ",
		"b/ffffffffffffffff/p0x7", "b/ffffffffffffffff/p0b1", "b/ffffffffffffffff/p1_0", "b/ffffffffffffffff/p00a", "b/ffffffffffffffff/p1e2", "b/ffffffffffffffff/p٠٠٧",
		"b/ffffffffffffffff/m0", "b/ffffffffffffffff/m000", "b/ffffffffffffffff/mm", "b/ffffffffffffffff/i007", "b/ffffffffffffffff/f/", "b/ffffffffffffffff/x ",
		"b/ffffffffffffffff/M", "b/ffffffffffffffff/P007", "b/ffffffffffffffff/q", "b/ffffffffffffffff/0", "b/ffffffffffffffff/000", "b/ffffffffffffffff//m", "b/ffffffffffffffff/m\n",
		"b/FFFFFFFFFFFFFFFF/m", "b/fffffffffffffffF/m", "b/000000000000000g/m", "b/+00000000000000f/m", "b/-00000000000000f/m", "b/ 00000000000000f/m",
		"b/0x000000000000ff/m", "b/0000_0000_0000ff/m", "b/000000000000ff/m", "b/00000000000000ff0/m", "b/000000000000000ff/m", "b/0000000000000ff/m0", "b/fffffffffffffffff/m",
		"c/ffffffffffffffff/m", "B/ffffffffffffffff/m", "/b/ffffffffffffffff/m", " b/ffffffffffffffff/m", "bb/ffffffffffffffff/m", "b/b/ffffffffffffffff/m",
		"b-ffffffffffffffff/m", "b/ffffffffffffffff-m", "b\\ffffffffffffffff/m", "b/ffffffffffffffff\x00m",
		"b/ffffffffffffffff/mb/ffffffffffffffff/m", strings.Repeat("/", 20), strings.Repeat("p", 23), strings.Repeat("0", 100),
		"b/ffffffffffffffff/p" + strings.Repeat("0", 100000),
		"b/ffffffffffffffff/p" + strings.Repeat("9", 100000),
	} {
		expectNoName(t, name)
		if _, _, _, is := parsed(name); is {
			t.Errorf("%q is a name", name)
		}
	}
}

func TestParseOfNamesThatAreAltered(t *testing.T) { // P13.2
	for _, name := range []string{"b/0123456789abcdef/m", "b/fedcba9876543210/i", "b/0000000000000000/f", "b/ffffffffffffffff/x", "b/00000000000000a0/p007", "b/9900000000000001/p199"} {
		expectParsed(t, name)
		for i := range len(name) {
			for c := range 256 {
				one := string([]byte{byte(c)})
				expectParsed(t, name[:i]+one+name[i+1:])
				expectParsed(t, name[:i]+one+name[i:])
			}
			expectParsed(t, name[:i])
			expectParsed(t, name[i:])
			expectParsed(t, name[:i]+name[i+1:])
		}
		for c := range 256 {
			expectParsed(t, name+string([]byte{byte(c)}))
		}
	}
}

func TestGetAndMarkedKeepAndChangeNothing(t *testing.T) { // P13.3
	for _, m := range metas() {
		room := append(put(t, m), 7, 7, 7, 7, 7, 7, 7, 7, 7)
		was := bytes.Clone(room)
		g, err := meta.Get(room[:len(room)-9])
		if err != nil || !bytes.Equal(room, was) {
			t.Fatalf("%x, %v; was %x", room, err, was)
		}
		clear(room)
		if g != m {
			t.Errorf("%v; want %v", g, m)
		}
	}
	for _, m := range markers() {
		room := append(mark(t, m), 7, 7, 7, 7, 7, 7, 7, 7, 7)
		was := bytes.Clone(room)
		g, err := meta.Marked(room[:len(room)-9])
		if err != nil || !bytes.Equal(room, was) {
			t.Fatalf("%x, %v; was %x", room, err, was)
		}
		clear(room)
		if g != m {
			t.Errorf("%v; want %v", g, m)
		}
	}
	for _, b := range [][]byte{nil, {1, 2, 3}, make([]byte, 31), sealed(make([]byte, 31)), sealed(make([]byte, 24)), sealed(nil)} {
		was := bytes.Clone(b)
		meta.Get(b)
		meta.Marked(b)
		if !bytes.Equal(b, was) {
			t.Errorf("%x; was %x", b, was)
		}
	}
}

func TestWhatIsToldIsNewMemory(t *testing.T) { // P13.3
	for _, m := range metas() {
		x, y := put(t, m), put(t, m)
		clear(x[:cap(x)])
		if !bytes.Equal(y, sealed(rawOf(m))) || !bytes.Equal(put(t, m), y) {
			t.Errorf("%x: calls of Put tell one memory", y)
		}
	}
	for _, m := range markers() {
		x, y := mark(t, m), mark(t, m)
		clear(x[:cap(x)])
		if !bytes.Equal(y, sealed(rawMarker(m.Id, uint64(m.At), m.By))) || !bytes.Equal(mark(t, m), y) {
			t.Errorf("%x: calls of Mark tell one memory", y)
		}
	}
}

func someMeta(r *rand.Rand) api.Meta {
	m := api.Meta{Id: r.Uint64()>>r.Intn(64) | 1, Level: r.Intn(maxLevel + 1)}
	m.Start = r.Int63n(maxTime + 1)
	m.End = m.Start + r.Int63n(maxTime-m.Start+1)
	m.Pages = 1 + r.Intn(maxPages)
	m.Traces = m.Pages + r.Intn(m.Pages*(maxTraces-1)+1)
	return m
}

func someMarker(r *rand.Rand) api.Marker {
	m := api.Marker{Id: r.Uint64()>>r.Intn(64) | 1, At: r.Int63n(maxTime + 1)}
	if r.Intn(3) > 0 {
		m.By = m.Id + 1 + uint64(r.Intn(9))
	}
	return m
}

func TestWhatWasPutIsGot(t *testing.T) { // P13.4
	r := rand.New(rand.NewSource(134))
	for _, m := range metas() {
		expectMeta(t, put(t, m), m)
	}
	for _, m := range markers() {
		expectMarker(t, mark(t, m), m)
	}
	for range 5000 {
		m, k := someMeta(r), someMarker(r)
		expectMeta(t, put(t, m), m)
		expectMarker(t, mark(t, k), k)
	}
	for level := range maxLevel + 1 {
		m := api.Meta{Id: 1, Level: level, Pages: 1, Traces: 1}
		expectMeta(t, put(t, m), m)
	}
	for pages := 1; pages <= maxPages; pages++ {
		for traces := pages; traces <= pages*maxTraces; traces += 1 + traces/9 {
			m := api.Meta{Id: 1, Pages: pages, Traces: traces}
			expectMeta(t, put(t, m), m)
		}
	}
}

func TestUnlikeOnesAreUnlike(t *testing.T) { // P13.4
	r := rand.New(rand.NewSource(135))
	seenMetas, seenMarkers := map[string]api.Meta{}, map[string]api.Marker{}
	for range 5000 {
		m := api.Meta{Id: 1 + uint64(r.Intn(3)), Level: r.Intn(3), Start: int64(r.Intn(3)), End: 2 + int64(r.Intn(3)), Pages: 1 + r.Intn(3), Traces: 3 + r.Intn(3)}
		x := string(put(t, m))
		if was, ok := seenMetas[x]; ok && was != m {
			t.Errorf("%v and %v are both put as %x", was, m, x)
		}
		seenMetas[x] = m
		k := api.Marker{Id: 1 + uint64(r.Intn(3)), At: int64(r.Intn(3)), By: uint64(r.Intn(5))}
		if !isFair(k) {
			continue
		}
		y := string(mark(t, k))
		if was, ok := seenMarkers[y]; ok && was != k {
			t.Errorf("%v and %v are both put as %x", was, k, y)
		}
		seenMarkers[y] = k
	}
}

func TestNamesTellWhatTheyAreOf(t *testing.T) { // P13.4
	r := rand.New(rand.NewSource(136))
	all := append([]uint64{}, ids...)
	for range 50 {
		all = append(all, r.Uint64()>>r.Intn(64)&^1|1<<40)
	}
	seen := map[string]string{}
	expect := func(id uint64, what string, page int) {
		t.Helper()
		name := meta.Name(id, what, page)
		gotId, gotWhat, gotPage, is := meta.Parse(name)
		if gotId != id || gotWhat != what || gotPage != page || !is {
			t.Errorf("Parse(%q): %d, %q, %d, %v; want %d, %q, %d", name, gotId, gotWhat, gotPage, is, id, what, page)
		}
		of := fmt.Sprint(id, what, page)
		if was, ok := seen[name]; ok && was != of {
			t.Errorf("%s is of %s, and of %s", name, was, of)
		}
		seen[name] = of
	}
	for _, id := range all {
		for _, what := range single {
			expect(id, what, 0)
		}
		for page := range 1000 {
			expect(id, "p", page)
		}
	}
}

func TestNamesAreAStoresNames(t *testing.T) { // P13.2
	st, err := store.New(1 << 10)
	if err != nil {
		t.Fatal(err)
	}
	for _, id := range ids {
		for _, what := range []string{"m", "i", "f", "x", "p"} {
			for _, page := range []int{0, 7, 199} {
				if err := st.Put(meta.Name(id, what, page), []byte{1}); err != nil {
					t.Errorf("%s: %v", meta.Name(id, what, page), err)
				}
			}
		}
	}
	// One behind the other by their Ids' numbers, as the store lists them.
	var last uint64
	l, err := st.List("b/")
	if err != nil || len(l) != 7*len(ids) {
		t.Fatalf("%d names, %v", len(l), err)
	}
	for _, name := range l {
		id, _, _, is := meta.Parse(name)
		if !is || id < last {
			t.Errorf("%s, of %d, stands behind one of %d", name, id, last)
		}
		last = id
	}
}

func TestNoCallPanics(t *testing.T) { // P1
	r := rand.New(rand.NewSource(137))
	number := func() int64 {
		return []int64{0, 1, 2, 64, 128, 200, maxTime, maxTime + 1, -1, math.MinInt64, math.MaxInt64, 1 << 58, 1 << 57}[r.Intn(13)]
	}
	for range 50000 {
		m := api.Meta{Id: uint64(number()), Level: int(number()), Start: number(), End: number(), Pages: int(number()), Traces: int(number())}
		x, err := meta.Put(m)
		if (err == nil) != mayBe(m) || meta.May(m) != mayBe(m) || err != nil && len(x) > 0 {
			t.Fatalf("Put(%v): %x, %v", m, x, err)
		}
		k := api.Marker{Id: uint64(number()), At: number(), By: uint64(number())}
		y, err := meta.Mark(k)
		if (err == nil) != isFair(k) || meta.Fair(k) != isFair(k) || err != nil && len(y) > 0 {
			t.Fatalf("Mark(%v): %x, %v", k, y, err)
		}
		b := make([]byte, r.Intn(40))
		r.Read(b)
		meta.Get(b)
		meta.Marked(b)
		meta.Get(sealed(b))
		meta.Marked(sealed(b))
		expectParsed(t, string(b))
		expectParsed(t, meta.Name(uint64(number()), string(b[:min(len(b), 1)]), int(number())))
	}
}

// expectHeld holds Get and Marked against the chapter's rules.
func expectHeld(t testing.TB, x []byte) {
	t.Helper()
	if len(x) < 4 {
		expectNeither(t, x, api.ErrForm)
		return
	}
	b := x[:len(x)-4]
	if !bytes.Equal(sealed(b), x) {
		expectNeither(t, x, api.ErrSum)
		return
	}
	if m, ok := gottenMeta(b); !ok {
		expectNoMeta(t, x, api.ErrForm)
	} else {
		expectMeta(t, x, m)
		if y := put(t, m); !bytes.Equal(y, x) {
			t.Errorf("%x is put as %x", x, y)
		}
	}
	if m, ok := gottenMarker(b); !ok {
		expectNoMarker(t, x, api.ErrForm)
	} else {
		expectMarker(t, x, m)
		if y := mark(t, m); !bytes.Equal(y, x) {
			t.Errorf("%x is put as %x", x, y)
		}
	}
}

func FuzzGet(f *testing.F) { // P13.1
	f.Add([]byte{}, true)
	f.Add(rawMeta(5, 7, 9, 2, 2, 3), true)
	f.Add(rawMeta(5, 7, 9, 2, 2, 300), true)
	f.Add(rawMarker(5, 3, 6), true)
	f.Add(rawMarker(5, 3, 5), true)
	f.Add(sealed(rawMarker(5, 3, 6)), false)
	f.Fuzz(func(t *testing.T, b []byte, seal bool) {
		if seal {
			b = sealed(b)
		}
		expectHeld(t, b)
	})
}

func FuzzParse(f *testing.F) { // P13.2
	f.Add("b/00000000000000ff/m")
	f.Add("b/fedcba9876543210/p007")
	f.Add("b/0123456789abcdef/p+07")
	f.Add("")
	f.Fuzz(func(t *testing.T, name string) {
		expectParsed(t, name)
		if id, what, page, is := meta.Parse(name); is && meta.Name(id, what, page) != name {
			t.Errorf("%q is named %q", name, meta.Name(id, what, page))
		}
	})
}
