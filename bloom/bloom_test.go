package bloom_test

import (
	"bytes"
	"encoding/hex"
	"hash/crc32"
	"math"
	"math/rand"
	"testing"

	"tankard/api"
	"tankard/bloom"
)

const (
	maxShards = 16
	maxBits   = 4096
	maxHashes = 8
)

// sizes are what a filter is made of.
type sizes struct{ shards, bits, hashes int }

func (s sizes) may() bool {
	return s.shards >= 1 && s.shards <= maxShards && s.bits >= 8 && s.bits <= maxBits && s.bits%8 == 0 && s.hashes >= 1 && s.hashes <= maxHashes
}

// model is the chapter's filter, bit by bit.
type model struct {
	sizes
	set [][]bool
}

func newModel(s sizes) *model {
	m := &model{sizes: s}
	for range s.shards {
		m.set = append(m.set, make([]bool, s.bits))
	}
	return m
}

func idBytes(id uint64) []byte {
	return []byte{byte(id >> 56), byte(id >> 48), byte(id >> 40), byte(id >> 32), byte(id >> 24), byte(id >> 16), byte(id >> 8), byte(id)}
}

// places are an Id's shard, and its places there.
func (m *model) places(id uint64) (int, []int) {
	a := int64(crc32.ChecksumIEEE(idBytes(id)))
	b := int64(crc32.ChecksumIEEE(append(idBytes(id), 1)))
	var l []int
	for i := range m.hashes {
		l = append(l, int((a+int64(i)*b)%int64(m.bits)))
	}
	return int(id % uint64(m.shards)), l
}

func (m *model) add(id uint64) {
	shard, l := m.places(id)
	for _, place := range l {
		m.set[shard][place] = true
	}
}

func (m *model) has(id uint64) bool {
	shard, l := m.places(id)
	for _, place := range l {
		if !m.set[shard][place] {
			return false
		}
	}
	return true
}

func sealed(b []byte) []byte {
	sum := crc32.ChecksumIEEE(b)
	return append(bytes.Clone(b), byte(sum>>24), byte(sum>>16), byte(sum>>8), byte(sum))
}

// head is what a filter's bytes begin with, whether it may be or not.
func head(shards, hashes, bits int) []byte {
	return []byte{byte(shards), byte(hashes), byte(bits >> 8), byte(bits)}
}

func (m *model) bytes() []byte {
	x := head(m.shards, m.hashes, m.bits)
	for _, shard := range m.set {
		for at := 0; at < m.bits; at += 8 {
			n := 0
			for i := range 8 {
				if shard[at+i] {
					n += 1 << i
				}
			}
			x = append(x, byte(n))
		}
	}
	return sealed(x)
}

// gotten is the model of a filter's bytes; nil, if they are none's.
func gotten(b []byte) *model {
	if len(b) < 4 {
		return nil
	}
	s := sizes{int(b[0]), int(b[2])*256 + int(b[3]), int(b[1])}
	if !s.may() || len(b) != 4+s.shards*s.bits/8 {
		return nil
	}
	m := newModel(s)
	for i, x := range b[4:] {
		for j := range 8 {
			at := i*8 + j
			m.set[at/s.bits][at%s.bits] = x>>j&1 == 1
		}
	}
	return m
}

func made(t testing.TB, s sizes) *bloom.Filter {
	t.Helper()
	f, err := bloom.New(s.shards, s.bits, s.hashes)
	if err != nil || f == nil {
		t.Fatalf("New(%d, %d, %d): %v, %v", s.shards, s.bits, s.hashes, f, err)
	}
	return f
}

func got(t testing.TB, x []byte) *bloom.Filter {
	t.Helper()
	f, err := bloom.Get(x)
	if err != nil || f == nil {
		t.Fatalf("Get(%x): %v, %v", x, f, err)
	}
	return f
}

// with is a filter with these Ids, and the model of it.
func with(t testing.TB, s sizes, ids ...uint64) (*bloom.Filter, *model) {
	t.Helper()
	f, m := made(t, s), newModel(s)
	for _, id := range ids {
		f.Add(id)
		m.add(id)
	}
	return f, m
}

// expectAlike holds a filter against the model: its bytes, and what it has of these.
func expectAlike(t testing.TB, f *bloom.Filter, m *model, ids ...uint64) {
	t.Helper()
	if x, want := f.Bytes(), m.bytes(); !bytes.Equal(x, want) {
		t.Fatalf("of %v: Bytes: %x; want %x", m.sizes, x, want)
	}
	for _, id := range ids {
		if f.Has(id) != m.has(id) {
			t.Fatalf("of %v: Has(%d): %v; want %v", m.sizes, id, f.Has(id), m.has(id))
		}
	}
}

func expectHasNothing(t testing.TB, f *bloom.Filter) {
	t.Helper()
	for _, id := range append(edges(), few(1000)...) {
		if f.Has(id) {
			t.Fatalf("Has(%d): true; it has nothing", id)
		}
	}
}

func expectRefused(t testing.TB, x []byte, want api.Code) {
	t.Helper()
	if f, err := bloom.Get(x); f != nil || err != error(want) {
		t.Fatalf("Get(%x): %v, %v; want nil, %v itself", x, f, err, want)
	}
}

func edges() []uint64 {
	return []uint64{0, 1, 2, 255, 256, 1<<32 - 1, 1 << 32, 1<<63 - 1, 1 << 63, math.MaxUint64 - 1, math.MaxUint64}
}

// few are the first Ids.
func few(n int) []uint64 {
	var l []uint64
	for i := range n {
		l = append(l, uint64(i))
	}
	return l
}

// someIds are near one another, or anywhere.
func someIds(r *rand.Rand, n int) []uint64 {
	var l []uint64
	for range n {
		switch r.Intn(3) {
		case 0:
			l = append(l, uint64(r.Intn(100)))
		case 1:
			l = append(l, edges()[r.Intn(len(edges()))])
		default:
			l = append(l, r.Uint64())
		}
	}
	return l
}

func someSizes(r *rand.Rand) sizes {
	s := sizes{1 + r.Intn(maxShards), 8 * (1 + r.Intn(maxBits/8)), 1 + r.Intn(maxHashes)}
	if r.Intn(2) == 0 {
		s.bits = 8 * (1 + r.Intn(16))
	}
	return s
}

// allSizes calls f with filters of each number of bits, each number of shards and
// of hashes among them.
func allSizes(f func(s sizes)) {
	for bits := 8; bits <= maxBits; bits += 8 {
		f(sizes{1 + bits/8%maxShards, bits, 1 + bits/128%maxHashes})
	}
	for shards := 1; shards <= maxShards; shards++ {
		for hashes := 1; hashes <= maxHashes; hashes++ {
			for _, bits := range []int{8, 24, 64, 1000} {
				f(sizes{shards, bits, hashes})
			}
		}
	}
	f(sizes{maxShards, maxBits, maxHashes})
}

func TestNewOfEachNumber(t *testing.T) { // P11.1
	check := func(shards, bits, hashes int) {
		f, err := bloom.New(shards, bits, hashes)
		if (sizes{shards, bits, hashes}).may() {
			if f == nil || err != nil {
				t.Errorf("New(%d, %d, %d): %v, %v; want a filter", shards, bits, hashes, f, err)
			}
		} else if f != nil || err != error(api.ErrArg) {
			t.Errorf("New(%d, %d, %d): %v, %v; want nil, %v itself", shards, bits, hashes, f, err, api.ErrArg)
		}
	}
	for shards := -20; shards <= 40; shards++ {
		for hashes := -20; hashes <= 40; hashes++ {
			for _, bits := range []int{-8, 0, 7, 8, 9, 12, 4095, 4096, 4097, 4104} {
				check(shards, bits, hashes)
			}
		}
	}
	for bits := -20; bits <= 9000; bits++ {
		check(1, bits, 1)
		check(16, bits, 8)
	}
}

func TestNewOfNumbersFarOff(t *testing.T) { // P11.1
	// Among them those that would be fine, if they were cut to fewer bits.
	for _, n := range []int{math.MinInt, math.MinInt + 8, -1 << 32, -1<<32 + 8, -1 << 16, -256, 256, 257, 264, 65536, 65544, 1<<32 + 1, 1<<32 + 8, 1<<62 + 8, math.MaxInt - 7, math.MaxInt} {
		for _, s := range []sizes{{n, 8, 1}, {1, 8, n}, {n, n, n}} {
			if f, err := bloom.New(s.shards, s.bits, s.hashes); f != nil || err != error(api.ErrArg) {
				t.Errorf("New(%v): %v, %v; want nil, %v itself", s, f, err, api.ErrArg)
			}
		}
		if n >= 8 && n <= maxBits {
			continue
		}
		if f, err := bloom.New(1, n, 1); f != nil || err != error(api.ErrArg) {
			t.Errorf("New(1, %d, 1): %v, %v; want nil, %v itself", n, f, err, api.ErrArg)
		}
	}
}

func TestANewOneHasNothing(t *testing.T) { // P11.1, the example
	allSizes(func(s sizes) {
		f := made(t, s)
		expectHasNothing(t, f)
		expectAlike(t, f, newModel(s))
	})
}

func TestBytesAsTheyAreWorkedOut(t *testing.T) { // P11.1, P11.2
	for _, c := range []struct {
		sizes
		ids  []uint64
		want string
	}{
		{sizes{1, 8, 1}, nil, "01010008" + "00" + "8b2733c0"},
		// The sum of eight bytes 0 is 6522df69: modulo 8 that is 1.
		{sizes{1, 8, 1}, []uint64{0}, "01010008" + "02" + "652952ec"},
		// fb464aca and de4fb2ff: 18, 17 and 16 modulo 24, of the second shard.
		{sizes{2, 24, 3}, []uint64{7}, "02030018" + "000000" + "000007" + "14a7c384"},
		{sizes{3, 40, 8}, []uint64{1, 2, math.MaxUint64}, "03080028" + "0370000c80" + "1021420488" + "8000020820" + "1d3f0ad8"},
	} {
		f, m := with(t, c.sizes, c.ids...)
		if x := hex.EncodeToString(f.Bytes()); x != c.want {
			t.Errorf("of %v with %v: %s; want %s", c.sizes, c.ids, x, c.want)
		}
		expectAlike(t, f, m, few(100)...)
	}
}

func TestAddOfOneId(t *testing.T) { // P11.1
	r := rand.New(rand.NewSource(111))
	allSizes(func(s sizes) {
		for _, id := range someIds(r, 4) {
			f, m := with(t, s, id)
			expectAlike(t, f, m, append(someIds(r, 20), id)...)
			if !f.Has(id) {
				t.Fatalf("of %v: it hasn't %d", s, id)
			}
		}
	})
}

func TestAddOfTheEdges(t *testing.T) { // P11.1
	for _, s := range []sizes{{1, 8, 8}, {16, 8, 1}, {7, 4096, 8}, {10, 4088, 8}, {16, 4096, 8}} {
		for _, id := range edges() {
			f, m := with(t, s, id)
			expectAlike(t, f, m, edges()...)
		}
		f, m := with(t, s, edges()...)
		expectAlike(t, f, m, append(edges(), few(200)...)...)
	}
}

func TestAddOfManyIds(t *testing.T) { // P11.1
	r := rand.New(rand.NewSource(112))
	for range 1000 {
		s := someSizes(r)
		ids := someIds(r, r.Intn(60))
		f, m := with(t, s, ids...)
		expectAlike(t, f, m, append(someIds(r, 60), ids...)...)
	}
}

func TestAPlaceIsOfTheWholeSum(t *testing.T) { // P11.1
	// a and some times b are more than 32 bits hold: cut to these, most places
	// modulo 24 would be others.
	s := sizes{1, 24, 8}
	others := 0
	for _, id := range few(100) {
		f, m := with(t, s, id)
		expectAlike(t, f, m)
		a, b := crc32.ChecksumIEEE(idBytes(id)), crc32.ChecksumIEEE(append(idBytes(id), 1))
		_, l := m.places(id)
		for i, place := range l {
			if int((a+uint32(i)*b)%24) != place {
				others++
				break
			}
		}
	}
	if others < 50 {
		t.Errorf("%d of 100: the test's Ids say little", others)
	}
}

func TestAnIdIsInItsShardAlone(t *testing.T) { // P11.1
	for shards := 1; shards <= maxShards; shards++ {
		for _, id := range append(edges(), few(40)...) {
			f := made(t, sizes{shards, 16, 3})
			f.Add(id)
			x := f.Bytes()
			for shard := range shards {
				its := x[4+2*shard : 6+2*shard]
				if empty := its[0] == 0 && its[1] == 0; empty != (uint64(shard) != id%uint64(shards)) {
					t.Errorf("%d of %d shards has %x with %d", shard, shards, its, id)
				}
			}
		}
	}
}

func TestAddOfOneIdTwice(t *testing.T) { // P11.1
	r := rand.New(rand.NewSource(113))
	for range 200 {
		s := someSizes(r)
		ids := someIds(r, 5)
		f, m := with(t, s, ids...)
		for _, id := range ids {
			f.Add(id)
			f.Add(id)
		}
		expectAlike(t, f, m, ids...)
	}
}

func TestAddInAnyOrder(t *testing.T) { // P11.1
	r := rand.New(rand.NewSource(114))
	for range 200 {
		s := someSizes(r)
		ids := someIds(r, 30)
		f, m := with(t, s, ids...)
		r.Shuffle(len(ids), func(i, j int) { ids[i], ids[j] = ids[j], ids[i] })
		g, _ := with(t, s, ids...)
		expectAlike(t, g, m)
		expectAlike(t, f, m)
	}
}

func TestAFullOneHasAll(t *testing.T) { // P11.1
	for _, s := range []sizes{{1, 8, 1}, {3, 24, 8}, {16, 128, 4}, {2, 4096, 8}} {
		f, m := with(t, s, few(20000)...)
		expectAlike(t, f, m, edges()...)
		for _, x := range f.Bytes()[4 : 4+s.shards*s.bits/8] {
			if x != 255 {
				t.Fatalf("of %v: the test's Ids don't fill it", s)
			}
		}
		if !f.Has(12345678901234567890) {
			t.Errorf("of %v: a full one hasn't all", s)
		}
	}
}

func TestHasTellsNothingElse(t *testing.T) { // P11.1
	// Of as many bits most Ids that weren't added aren't there.
	f, _ := with(t, sizes{4, 4096, 4}, few(400)...)
	wrong := 0
	for i := range 10000 {
		if f.Has(uint64(1000 + i)) {
			wrong++
		}
	}
	if wrong > 100 {
		t.Errorf("%d of 10000 that weren't added are there", wrong)
	}
}

func TestHasAndBytesChangeNothing(t *testing.T) { // P11.3
	r := rand.New(rand.NewSource(115))
	for range 200 {
		s := someSizes(r)
		f, m := with(t, s, someIds(r, 10)...)
		for _, id := range someIds(r, 50) {
			f.Has(id)
			f.Bytes()
		}
		expectAlike(t, f, m)
	}
}

func TestGetOfBytes(t *testing.T) { // P11.2
	r := rand.New(rand.NewSource(116))
	allSizes(func(s sizes) {
		ids := someIds(r, 1+s.bits/20)
		f, m := with(t, s, ids...)
		expectAlike(t, got(t, f.Bytes()), m, append(someIds(r, 20), ids...)...)
	})
	allSizes(func(s sizes) {
		f := got(t, made(t, s).Bytes())
		expectHasNothing(t, f)
		expectAlike(t, f, newModel(s))
	})
}

func TestGetOfAnyBits(t *testing.T) { // P11.2
	r := rand.New(rand.NewSource(117))
	for range 500 {
		s := someSizes(r)
		b := make([]byte, s.shards*s.bits/8)
		r.Read(b)
		b = append(head(s.shards, s.hashes, s.bits), b...)
		f, m := got(t, sealed(b)), gotten(b)
		expectAlike(t, f, m, someIds(r, 50)...)
		// What was got is there to be added to.
		for _, id := range someIds(r, 10) {
			f.Add(id)
			m.add(id)
		}
		expectAlike(t, f, m, someIds(r, 50)...)
	}
}

func TestGetOfTooFewBytesToOpen(t *testing.T) { // P11.2
	for _, x := range [][]byte{nil, {}, {0}, {1, 1}, {1, 1, 0}} {
		expectRefused(t, x, api.ErrForm)
	}
}

func TestGetOfAnotherSum(t *testing.T) { // P11.2
	for _, s := range []sizes{{1, 8, 1}, {2, 24, 3}, {3, 64, 8}} {
		f, _ := with(t, s, few(3)...)
		x := f.Bytes()
		for i := range x {
			for bit := range 8 {
				x[i] ^= 1 << bit
				expectRefused(t, x, api.ErrSum)
				x[i] ^= 1 << bit
			}
		}
		for n := range len(x) {
			want := api.ErrSum
			if n < 4 {
				want = api.ErrForm
			}
			expectRefused(t, x[:n], want)
		}
		expectRefused(t, append(bytes.Clone(x), 0), api.ErrSum)
		expectRefused(t, x[1:], api.ErrSum)
	}
}

func TestGetTellsOpensErrorFirst(t *testing.T) { // P11.2, R1
	// These are neither sealed nor a filter's.
	for _, b := range [][]byte{{}, {1}, head(0, 1, 8), head(1, 1, 8), append(head(1, 9, 8), 0)} {
		x := sealed(b)
		x[len(x)-1] ^= 1
		expectRefused(t, x, api.ErrSum)
	}
}

func TestGetOfAHeadThatIsNoFilters(t *testing.T) { // P11.2
	for shards := range 256 {
		for hashes := range 256 {
			b := append(head(shards, hashes, 8), make([]byte, shards)...)
			if (sizes{shards, 8, hashes}).may() {
				got(t, sealed(b))
			} else {
				expectRefused(t, sealed(b), api.ErrForm)
			}
		}
	}
	for bits := range 65536 {
		// As many bytes as would hold them, and that with a last one.
		for n := bits / 8; n <= (bits+7)/8; n++ {
			b := append(head(1, 1, bits), make([]byte, n)...)
			if (sizes{1, bits, 1}).may() {
				got(t, sealed(b))
			} else {
				expectRefused(t, sealed(b), api.ErrForm)
			}
		}
	}
}

func TestGetOfAHeadThatIsCut(t *testing.T) { // P11.2
	for _, s := range []sizes{{1, 8, 1}, {16, 4096, 8}, {1, 256, 1}} {
		for n := range 5 {
			expectRefused(t, sealed(head(s.shards, s.hashes, s.bits)[:n]), api.ErrForm)
		}
	}
}

func TestGetOfTooFewOrTooManyBytes(t *testing.T) { // P11.2
	for _, s := range []sizes{{1, 8, 1}, {2, 8, 3}, {3, 24, 8}, {16, 128, 1}, {16, 4096, 8}} {
		f, _ := with(t, s, few(9)...)
		x := f.Bytes()
		b := x[:len(x)-4]
		got(t, sealed(b))
		for n := range min(len(b), 300) {
			expectRefused(t, sealed(b[:n]), api.ErrForm)
			expectRefused(t, sealed(b[:len(b)-1-n]), api.ErrForm)
		}
		for n := 1; n < 300; n++ {
			expectRefused(t, sealed(append(bytes.Clone(b), make([]byte, n)...)), api.ErrForm)
		}
		// A filter sealed twice is no filter's.
		expectRefused(t, sealed(x), api.ErrForm)
	}
	// A shard of others' is one too few, or too many.
	for shards := 1; shards <= maxShards; shards++ {
		for others := 1; others <= maxShards; others++ {
			b := append(head(shards, 1, 64), make([]byte, others*8)...)
			if shards == others {
				got(t, sealed(b))
			} else {
				expectRefused(t, sealed(b), api.ErrForm)
			}
		}
	}
}

func TestGetKeepsAndChangesNothing(t *testing.T) { // P11.3
	r := rand.New(rand.NewSource(118))
	for range 300 {
		s := someSizes(r)
		ids := someIds(r, 10)
		f, m := with(t, s, ids...)
		// There is room behind what is handed in, that is the caller's.
		x := f.Bytes()
		room := append(append(make([]byte, 0, len(x)+20), x...), bytes.Repeat([]byte{7}, 20)...)
		was := bytes.Clone(room)
		g := got(t, room[:len(x)])
		g.Add(1)
		g.Bytes()
		g.Has(2)
		m.add(1)
		if !bytes.Equal(room, was) {
			t.Fatalf("%x; was %x: Get, or a call of what it told, changed what was handed in", room, was)
		}
		clear(room)
		expectAlike(t, g, m, ids...)
	}
}

func TestBytesAreNewMemory(t *testing.T) { // P11.3
	r := rand.New(rand.NewSource(119))
	for range 300 {
		s := someSizes(r)
		ids := someIds(r, 10)
		f, m := with(t, s, ids...)
		x := f.Bytes()
		y := f.Bytes()
		clear(x[:cap(x)])
		if !bytes.Equal(y, m.bytes()) {
			t.Fatal("two calls tell one memory")
		}
		expectAlike(t, f, m, ids...)
		was := bytes.Clone(y)
		f.Add(r.Uint64())
		f.Add(r.Uint64())
		if !bytes.Equal(y, was) {
			t.Fatal("Add changes what was told")
		}
	}
}

func TestFiltersAreApart(t *testing.T) { // P11.3
	s := sizes{2, 64, 3}
	f, m := with(t, s, 1, 2, 3)
	g, empty := with(t, s)
	x := f.Bytes()
	a, b := got(t, x), got(t, x)
	f.Add(4)
	expectAlike(t, g, empty)
	expectAlike(t, a, m)
	a.Add(5)
	expectAlike(t, b, m)
	m.add(4)
	expectAlike(t, f, m)
}

func TestWhatWasAddedIsThere(t *testing.T) { // P11.4
	r := rand.New(rand.NewSource(120))
	for range 300 {
		s := someSizes(r)
		f, m := with(t, s)
		var ids []uint64
		for range 60 {
			switch r.Intn(4) {
			case 0: // written and read, some times over
				for range 1 + r.Intn(3) {
					f = got(t, f.Bytes())
				}
			default:
				id := someIds(r, 1)[0]
				f.Add(id)
				m.add(id)
				ids = append(ids, id)
			}
			for _, id := range ids {
				if !f.Has(id) {
					t.Fatalf("of %v: %d isn't there any more", s, id)
				}
			}
		}
		expectAlike(t, f, m, someIds(r, 50)...)
	}
}

func TestOfManyAddedAllAreThere(t *testing.T) { // P11.4
	for _, s := range []sizes{{1, 8, 1}, {1, 8, 8}, {2, 4096, 3}, {16, 4096, 8}, {13, 4088, 5}} {
		ids := append(edges(), few(5000)...)
		f, m := with(t, s, ids...)
		g := got(t, f.Bytes())
		for _, id := range ids {
			if !f.Has(id) || !g.Has(id) {
				t.Fatalf("of %v: %d isn't there", s, id)
			}
		}
		expectAlike(t, g, m)
	}
}

func TestNoCallPanics(t *testing.T) { // P1
	r := rand.New(rand.NewSource(121))
	anyInt := func() int {
		switch r.Intn(3) {
		case 0:
			return r.Intn(40) - 10
		case 1:
			return 8 * r.Intn(600)
		default:
			return int(r.Uint64())
		}
	}
	for range 50000 {
		f, err := bloom.New(anyInt(), anyInt(), anyInt())
		if (f == nil) != (err != nil) {
			t.Fatal(f, err)
		}
		x := make([]byte, r.Intn(20))
		r.Read(x)
		if r.Intn(2) == 0 && len(x) > 3 {
			x[0], x[1], x[2], x[3] = x[0]%4, x[1]%10, 0, x[3]%80
		}
		g, err := bloom.Get(sealed(x))
		if (g == nil) != (err != nil) {
			t.Fatal(g, err)
		}
		for _, f := range []*bloom.Filter{f, g} {
			if f != nil {
				f.Add(r.Uint64())
				f.Has(r.Uint64())
				f.Bytes()
			}
		}
	}
}

func FuzzGet(f *testing.F) { // P11.2
	f.Add([]byte{}, true)
	f.Add(append(head(1, 1, 8), 2), true)
	f.Add(append(head(2, 3, 24), 1, 2, 3, 4, 5, 6), true)
	f.Add(newModel(sizes{2, 24, 3}).bytes(), false)
	f.Fuzz(func(t *testing.T, b []byte, seal bool) {
		x := b
		if seal {
			x = sealed(b)
		}
		switch {
		case len(x) < 4:
			expectRefused(t, x, api.ErrForm)
		case !bytes.Equal(sealed(x[:len(x)-4]), x):
			expectRefused(t, x, api.ErrSum)
		case gotten(x[:len(x)-4]) == nil:
			expectRefused(t, x, api.ErrForm)
		default:
			expectAlike(t, got(t, x), gotten(x[:len(x)-4]), append(edges(), few(50)...)...)
		}
	})
}

func FuzzCalls(f *testing.F) { // P11.1, P11.4
	f.Add(1, 8, 1, []byte{1, 2, 3})
	f.Add(16, 4096, 8, []byte("abcdefghijklmnopqrstuvwxyz"))
	f.Add(3, 24, 5, []byte{0, 0, 0, 0, 0, 0, 0, 0, 255})
	f.Fuzz(func(t *testing.T, shards, bits, hashes int, calls []byte) {
		s := sizes{shards, bits, hashes}
		if !s.may() {
			if f, err := bloom.New(shards, bits, hashes); f != nil || err != error(api.ErrArg) {
				t.Fatalf("New(%v): %v, %v", s, f, err)
			}
			return
		}
		f, m := with(t, s)
		for id := uint64(0); len(calls) > 0; calls = calls[1:] {
			id = id<<8 | uint64(calls[0])
			if calls[0]%8 == 7 {
				f = got(t, f.Bytes())
				continue
			}
			f.Add(id)
			m.add(id)
			if !f.Has(id) {
				t.Fatalf("of %v: it hasn't %d", s, id)
			}
		}
		expectAlike(t, f, m, append(edges(), few(20)...)...)
	})
}
