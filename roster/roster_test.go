package roster_test

import (
	"bytes"
	"encoding/binary"
	"fmt"
	"hash/crc32"
	"math"
	"math/rand"
	"slices"
	"testing"

	"tankard/api"
	"tankard/block"
	"tankard/meta"
	"tankard/roster"
	"tankard/store"
)

const (
	maxTime   = 1 << 40
	maxPages  = 200
	maxTraces = 64
	maxLevel  = 10
	maxRoom   = 1 << 20
	maxBlocks = 1000
)

// plain is a meta that may be.
func plain(id uint64) api.Meta {
	return api.Meta{Id: id, Level: int(id % 11), Start: int64(id % 7), End: int64(id%7 + id%1000), Pages: 2, Traces: 3}
}

// since is a marker that may be.
func since(id uint64) api.Marker { return api.Marker{Id: id, At: int64(id % 900), By: id + 1} }

// rosterOf has plain metas and markers of these Ids.
func rosterOf(live, marked []uint64) roster.Roster {
	var r roster.Roster
	for _, id := range live {
		r.Live = append(r.Live, plain(id))
	}
	for _, id := range marked {
		r.Marked = append(r.Marked, since(id))
	}
	return r
}

// upTo are so many Ids, behind this one.
func upTo(first uint64, n int) []uint64 {
	var l []uint64
	for i := range n {
		l = append(l, first+uint64(i)+1)
	}
	return l
}

// rosters are rosters that may be: ordinary ones, and at the bounds.
func rosters() []roster.Roster {
	all := uint64(math.MaxUint64)
	return []roster.Roster{
		{},
		rosterOf([]uint64{1}, nil),
		rosterOf(nil, []uint64{1}),
		rosterOf([]uint64{3, 20}, []uint64{5}),
		rosterOf([]uint64{7}, []uint64{2, 3, 900}),
		{Live: []api.Meta{{Id: 1, Pages: 1, Traces: 1}}, Marked: []api.Marker{{Id: 2}}},
		{
			Live: []api.Meta{
				{Id: 1 << 63, Start: 0, End: maxTime, Pages: maxPages, Traces: maxPages},
				{Id: all, Level: maxLevel, Start: maxTime, End: maxTime, Pages: maxPages, Traces: maxPages * maxTraces},
			},
			Marked: []api.Marker{{Id: 1, At: 0, By: all}, {Id: all - 1, At: maxTime, By: all}},
		},
		rosterOf(upTo(0, maxBlocks), nil),
		rosterOf(nil, upTo(0, maxBlocks)),
		rosterOf(upTo(0, maxBlocks), upTo(maxBlocks, maxBlocks)),
		rosterOf(upTo(1<<40, maxBlocks-1), upTo(9, maxBlocks-1)),
	}
}

// wrongMetas are metas of this Id, or of none, that may not be.
func wrongMetas(id uint64) []api.Meta {
	return []api.Meta{
		{},
		{Id: 0, Pages: 1, Traces: 1},
		{Id: id},
		{Id: id, Level: maxLevel + 1, Pages: 1, Traces: 1},
		{Id: id, Start: 3, End: 2, Pages: 1, Traces: 1},
		{Id: id, End: maxTime + 1, Pages: 1, Traces: 1},
		{Id: id, Pages: 2, Traces: 1},
		{Id: id, Pages: 1, Traces: maxTraces + 1},
		{Id: id, Pages: maxPages + 1, Traces: maxPages + 1},
	}
}

// wrongMarkers are such markers.
func wrongMarkers(id uint64) []api.Marker {
	return []api.Marker{{}, {Id: 0, At: 3, By: 6}, {Id: id, At: -1}, {Id: id, At: maxTime + 1}, {Id: id, At: 5, By: id}}
}

// wrong are rosters that may not be, each by one thing alone.
func wrong() []roster.Roster {
	live, marked := []uint64{3, 5, 20}, []uint64{4, 6, 9}
	var l []roster.Roster
	but := func(change func(r *roster.Roster)) {
		r := rosterOf(live, marked)
		change(&r)
		l = append(l, r)
	}
	for i := range live {
		for _, m := range wrongMetas(live[i]) {
			but(func(r *roster.Roster) { r.Live[i] = m })
		}
		for _, m := range wrongMarkers(marked[i]) {
			but(func(r *roster.Roster) { r.Marked[i] = m })
		}
	}
	for i := range 2 {
		but(func(r *roster.Roster) { r.Live[i].Id = r.Live[i+1].Id })
		but(func(r *roster.Roster) { r.Marked[i] = r.Marked[i+1] })
		but(func(r *roster.Roster) { r.Live[i].Id = 21 })
		but(func(r *roster.Roster) { r.Marked[i] = since(10) })
		but(func(r *roster.Roster) { r.Live[i+1] = plain(2) })
		but(func(r *roster.Roster) { r.Marked[i+1] = since(3) })
	}
	return append(l,
		rosterOf([]uint64{9, 9}, nil),
		rosterOf(nil, []uint64{9, 9}),
		rosterOf([]uint64{math.MaxUint64, 1}, nil),
		rosterOf(nil, []uint64{1 << 63, 1<<63 - 1}),
		rosterOf(upTo(0, maxBlocks+1), nil),
		rosterOf(nil, upTo(0, maxBlocks+1)),
		rosterOf(upTo(0, maxBlocks+1), upTo(maxBlocks+1, maxBlocks)),
		rosterOf(upTo(0, 2*maxBlocks), nil),
		rosterOf([]uint64{1}, upTo(1, 65536)),
		rosterOf(upTo(0, 65537), []uint64{1}),
	)
}

// may is the chapter's rule.
func may(r roster.Roster) bool {
	for i, m := range r.Live {
		if !meta.May(m) || i > 0 && r.Live[i-1].Id >= m.Id {
			return false
		}
	}
	for i, m := range r.Marked {
		if !meta.Fair(m) || i > 0 && r.Marked[i-1].Id >= m.Id {
			return false
		}
	}
	return len(r.Live) <= 1000 && len(r.Marked) <= 1000
}

func sealed(b []byte) []byte {
	return binary.BigEndian.AppendUint32(bytes.Clone(b), crc32.ChecksumIEEE(b))
}

// rawMeta is the bytes, without their sum, of a meta that may be or not.
func rawMeta(m api.Meta) []byte {
	b := binary.BigEndian.AppendUint64(nil, m.Id)
	b = binary.BigEndian.AppendUint64(b, uint64(m.Start))
	b = binary.BigEndian.AppendUint64(b, uint64(m.End))
	b = append(b, byte(m.Level))
	b = binary.BigEndian.AppendUint16(b, uint16(m.Pages))
	return binary.BigEndian.AppendUint32(b, uint32(m.Traces))
}

// rawMarker is that of a marker.
func rawMarker(m api.Marker) []byte {
	b := binary.BigEndian.AppendUint64(nil, m.Id)
	b = binary.BigEndian.AppendUint64(b, uint64(m.At))
	return binary.BigEndian.AppendUint64(b, m.By)
}

// rawOf is that of a roster, under these counts.
func rawOf(live, marked int, r roster.Roster) []byte {
	b := binary.BigEndian.AppendUint16(nil, uint16(live))
	b = binary.BigEndian.AppendUint16(b, uint16(marked))
	for _, m := range r.Live {
		b = append(b, rawMeta(m)...)
	}
	for _, m := range r.Marked {
		b = append(b, rawMarker(m)...)
	}
	return b
}

func raw(r roster.Roster) []byte { return rawOf(len(r.Live), len(r.Marked), r) }

// gotten is the roster of these bytes, and whether they are one's.
func gotten(b []byte) (roster.Roster, bool) {
	if len(b) < 4 {
		return roster.Roster{}, false
	}
	live := int(binary.BigEndian.Uint16(b))
	marked := int(binary.BigEndian.Uint16(b[2:]))
	b = b[4:]
	if len(b) != 31*live+24*marked {
		return roster.Roster{}, false
	}
	var r roster.Roster
	for range live {
		r.Live = append(r.Live, api.Meta{
			Id:     binary.BigEndian.Uint64(b),
			Start:  int64(binary.BigEndian.Uint64(b[8:])),
			End:    int64(binary.BigEndian.Uint64(b[16:])),
			Level:  int(b[24]),
			Pages:  int(binary.BigEndian.Uint16(b[25:])),
			Traces: int(binary.BigEndian.Uint32(b[27:])),
		})
		b = b[31:]
	}
	for range marked {
		r.Marked = append(r.Marked, api.Marker{
			Id: binary.BigEndian.Uint64(b),
			At: int64(binary.BigEndian.Uint64(b[8:])),
			By: binary.BigEndian.Uint64(b[16:]),
		})
		b = b[24:]
	}
	return r, may(r)
}

// name is what chapter 13 says.
func name(id uint64, what string) string { return fmt.Sprintf("b/%016x/%s", id, what) }

func empty(t testing.TB) *store.Store {
	t.Helper()
	st, err := store.New(maxRoom)
	if err != nil {
		t.Fatal(err)
	}
	return st
}

func put(t testing.TB, st *store.Store, name string, b []byte) {
	t.Helper()
	if err := st.Put(name, b); err != nil {
		t.Fatal(name, err)
	}
}

// laid is a store with these blocks, and their markers.
func laid(t testing.TB, live, marked []uint64) *store.Store {
	t.Helper()
	st := empty(t)
	for _, id := range slices.Concat(live, marked) {
		put(t, st, name(id, "m"), sealed(rawMeta(plain(id))))
	}
	for _, id := range marked {
		put(t, st, name(id, "x"), sealed(rawMarker(since(id))))
	}
	return st
}

// had are all objects of a store: a call or more, that go well.
func had(t testing.TB, st *store.Store) map[string]string {
	t.Helper()
	st.Fail(-1)
	names, err := st.List("")
	if err != nil {
		t.Fatal(err)
	}
	l := map[string]string{}
	for _, name := range names {
		b, err := st.Get(name)
		if err != nil {
			t.Fatal(err)
		}
		l[name] = string(b)
	}
	return l
}

func same(a, b roster.Roster) bool {
	return slices.Equal(a.Live, b.Live) && slices.Equal(a.Marked, b.Marked)
}

func isNone(r roster.Roster) bool { return len(r.Live) == 0 && len(r.Marked) == 0 }

func expectNames(t testing.TB, st *store.Store, live, marked []uint64) {
	t.Helper()
	if a, b, err := roster.Names(st); err != nil || !slices.Equal(a, live) || !slices.Equal(b, marked) {
		t.Errorf("Names: %v, %v, %v; want %v, %v", a, b, err, live, marked)
	}
}

func expectNoNames(t testing.TB, st *store.Store, want api.Code) {
	t.Helper()
	if a, b, err := roster.Names(st); err != error(want) || len(a) != 0 || len(b) != 0 {
		t.Errorf("Names: %v, %v, %v; want %v", a, b, err, want)
	}
}

func expectList(t testing.TB, st *store.Store, want roster.Roster) {
	t.Helper()
	if r, err := roster.List(st); err != nil || !same(r, want) {
		t.Errorf("List: %v, %v; want %v", r, err, want)
	}
}

func expectNoList(t testing.TB, st *store.Store, want api.Code) {
	t.Helper()
	if r, err := roster.List(st); err != error(want) || !isNone(r) {
		t.Errorf("List: %v, %v; want %v", r, err, want)
	}
}

func putRoster(t testing.TB, r roster.Roster) []byte {
	t.Helper()
	x, err := roster.Put(r)
	if err != nil {
		t.Fatalf("Put(%v): %v", r, err)
	}
	return x
}

func expectGot(t testing.TB, x []byte, want roster.Roster) {
	t.Helper()
	if r, err := roster.Get(x); err != nil || !same(r, want) {
		t.Errorf("Get(%x): %v, %v; want %v", x, r, err, want)
	}
}

func expectNotGot(t testing.TB, x []byte, want api.Code) {
	t.Helper()
	if r, err := roster.Get(x); err != error(want) || !isNone(r) {
		t.Errorf("Get(%x): %v, %v; want %v", x, r, err, want)
	}
}

func TestExample(t *testing.T) { // P17.1, P17.2, the chapter's example
	st := empty(t)
	expectNames(t, st, nil, nil)
	expectList(t, st, roster.Roster{})
}

func TestOfNoStore(t *testing.T) { // P17.1, P17.2
	expectNoNames(t, nil, api.ErrArg)
	expectNoList(t, nil, api.ErrArg)
}

func TestNames(t *testing.T) { // P17.1
	all := uint64(math.MaxUint64)
	for _, x := range []struct{ live, marked []uint64 }{
		{[]uint64{1}, nil},
		{nil, []uint64{1}},
		{[]uint64{3, 20}, []uint64{5}},
		{[]uint64{5}, []uint64{3, 20}},
		{[]uint64{1, 2, 3, 4}, nil},
		{nil, []uint64{1, 2, 3, 4}},
		{[]uint64{1, 3, 5}, []uint64{2, 4, 6}},
		{[]uint64{2, 4, 6}, []uint64{1, 3, 5}},
		{[]uint64{1, 4}, []uint64{2, 3}},
		{[]uint64{9, 10, 11, 15, 16, 17, 99, 100, 255, 256}, []uint64{12, 159, 160, 161, 4095, 4096}},
		{[]uint64{1<<63 - 1, all}, []uint64{1 << 32, 1 << 63}},
		{[]uint64{1}, []uint64{all}},
		// A block is where its meta's object is.
		{[]uint64{0, 1}, nil},
		{[]uint64{1}, []uint64{0}},
	} {
		st := laid(t, x.live, x.marked)
		was := st.Calls()
		expectNames(t, st, x.live, x.marked)
		if n := st.Calls() - was; n != 1 {
			t.Errorf("%d calls; want one", n)
		}
	}
}

func TestNamesHoweverTheyArePut(t *testing.T) { // P17.1
	r := rand.New(rand.NewSource(171))
	for range 200 {
		var ids, live, marked []uint64
		st := empty(t)
		for range r.Intn(40) {
			ids = append(ids, r.Uint64()>>r.Intn(64))
		}
		slices.Sort(ids)
		ids = slices.Compact(ids)
		var names []string
		for _, id := range ids {
			names = append(names, name(id, "m"))
			if r.Intn(2) == 0 {
				live = append(live, id)
				continue
			}
			marked = append(marked, id)
			names = append(names, name(id, "x"))
		}
		r.Shuffle(len(names), func(i, k int) { names[i], names[k] = names[k], names[i] })
		for _, name := range names {
			put(t, st, name, nil)
		}
		expectNames(t, st, live, marked)
	}
}

func TestNamesOfOtherObjects(t *testing.T) { // P17.1
	st := laid(t, []uint64{3, 20}, []uint64{5})
	// Blocks that aren't there: all their objects are but the meta.
	for _, id := range []uint64{0, 1, 4, 6, 19, 21, math.MaxUint64} {
		for _, what := range []string{"i", "f", "x", "p000", "p001", "p999"} {
			put(t, st, name(id, what), sealed(rawMarker(since(id))))
		}
	}
	expectNames(t, st, []uint64{3, 20}, []uint64{5})
	// Those that are there have other objects, too.
	for _, id := range []uint64{3, 5, 20} {
		for _, what := range []string{"i", "f", "p000", "p199"} {
			put(t, st, name(id, what), nil)
		}
	}
	expectNames(t, st, []uint64{3, 20}, []uint64{5})
	// What looks like a meta, or a marker.
	for _, other := range []string{
		"b/", "b/m", "b/x", "b//m", "b/0000000000000003", "b/0000000000000003/",
		"b/0000000000000003/xx", "b/0000000000000003/x/", "b/0000000000000003/x0", "b/0000000000000003/-x",
		"b/000000000000003/x", "b/00000000000000003/x", "b/000000000000000g/m", "b/-000000000000001/m",
		"b/0000000000000007/mm", "b/0000000000000007/m/", "b/0000000000000007/m0", "b/0000000000000007/p",
		"b/0000000000000007//m", "b/0000000000000007-m", "b/0000000000000007m",
		"a/0000000000000007/m", "c/0000000000000007/m", "0000000000000007/m", "/b/0000000000000007/m",
		"bb/0000000000000007/m", "b0000000000000007/m", "m", "x", "c/0000000000000003/x",
	} {
		put(t, st, other, sealed(rawMeta(plain(7))))
	}
	expectNames(t, st, []uint64{3, 20}, []uint64{5})
	expectList(t, st, rosterOf([]uint64{3, 20}, []uint64{5}))
}

func TestNamesOfWhatCantBeRead(t *testing.T) { // P17.1
	// That an object is there is enough, whatever it has.
	st := empty(t)
	for i, b := range [][]byte{nil, {1}, sealed(nil), sealed(rawMeta(plain(77))), {1, 2, 3, 4, 5}} {
		put(t, st, name(uint64(i)+1, "m"), b)
		put(t, st, name(uint64(i)+11, "m"), b)
		put(t, st, name(uint64(i)+11, "x"), b)
	}
	expectNames(t, st, upTo(0, 5), upTo(10, 5))
}

func TestNamesOfMany(t *testing.T) { // P17.1
	st := laid(t, upTo(0, 3000), upTo(3000, 3000))
	expectNames(t, st, upTo(0, 3000), upTo(3000, 3000))
}

func TestNamesThatCantBeListed(t *testing.T) { // P17.1
	st := laid(t, []uint64{3, 20}, []uint64{5})
	st.Fail(0)
	expectNoNames(t, st, api.ErrFail)
	expectNames(t, st, []uint64{3, 20}, []uint64{5})
	st.Fail(1)
	expectNames(t, st, []uint64{3, 20}, []uint64{5})
	expectNoNames(t, st, api.ErrFail)
}

func TestABlockComesAndGoes(t *testing.T) { // P17.1, P17.2, P17.5
	l := []api.Trace{{Id: 3, Spans: []api.Span{{Trace: 3, Id: 1, Start: 2, End: 5}}}}
	st := empty(t)
	objects, m, err := block.Make(9, 1, l, api.Sizes{Page: 64, Shards: 1, Bits: 64, Hashes: 2})
	if err != nil {
		t.Fatal(err)
	}
	for _, o := range objects {
		expectList(t, st, roster.Roster{})
		put(t, st, o.Name, o.B)
	}
	expectNames(t, st, []uint64{9}, nil)
	expectList(t, st, roster.Roster{Live: []api.Meta{m}})
	put(t, st, name(9, "x"), sealed(rawMarker(since(9))))
	expectNames(t, st, nil, []uint64{9})
	expectList(t, st, rosterOf(nil, []uint64{9}))
	if err := st.Delete(name(9, "m")); err != nil {
		t.Fatal(err)
	}
	expectNames(t, st, nil, nil)
	expectList(t, st, roster.Roster{})
}

func TestList(t *testing.T) { // P17.2
	for _, want := range rosters() {
		if len(want.Live)+len(want.Marked) > maxBlocks {
			continue
		}
		st := empty(t)
		for _, m := range want.Live {
			put(t, st, name(m.Id, "m"), sealed(rawMeta(m)))
		}
		for _, m := range want.Marked {
			put(t, st, name(m.Id, "m"), sealed(rawMeta(plain(m.Id))))
			put(t, st, name(m.Id, "x"), sealed(rawMarker(m)))
		}
		was := st.Calls()
		expectList(t, st, want)
		if n := st.Calls() - was; n != 1+len(want.Live)+len(want.Marked) {
			t.Errorf("%d calls of %d live ones, and %d marked", n, len(want.Live), len(want.Marked))
		}
	}
}

func TestListOfCallsThatFail(t *testing.T) { // P17.2
	live, marked := []uint64{3, 7, 20}, []uint64{1, 5}
	st := laid(t, live, marked)
	for n := range 6 {
		st.Fail(n)
		expectNoList(t, st, api.ErrFail)
		// Nothing was asked behind that, and it changed nothing.
		was := st.Calls()
		expectList(t, st, rosterOf(live, marked))
		st.Fail(n)
		roster.List(st)
		if calls := st.Calls() - was; calls != 6+n+1 {
			t.Errorf("%d calls; want %d", calls, 6+n+1)
		}
	}
	st.Fail(6)
	expectList(t, st, rosterOf(live, marked))
}

// fault is something that is wrong with the object of a block, and what is told of
// it.
type fault struct {
	name string
	make func(t testing.TB, st *store.Store, name string)
	want api.Code
}

func as(b []byte) func(t testing.TB, st *store.Store, name string) {
	return func(t testing.TB, st *store.Store, name string) { put(t, st, name, b) }
}

func altered(t testing.TB, st *store.Store, name string) {
	if !st.Alter(name, 2, 1) {
		t.Fatal(name)
	}
}

// faults are those of any object.
func faults() []fault {
	return []fault{
		{"altered", altered, api.ErrSum},
		{"of no bytes", as(nil), api.ErrForm},
		{"too short for a sum", as([]byte{1, 2, 3}), api.ErrForm},
		{"sealed, of no bytes", as(sealed(nil)), api.ErrForm},
		{"of another form", as(sealed([]byte{255, 255, 255, 255, 9})), api.ErrForm},
	}
}

// metaFaults are those of the meta of block 7, or of others.
func metaFaults() []fault {
	l := append(faults(),
		fault{"a marker", as(sealed(rawMarker(since(7)))), api.ErrForm},
		fault{"one byte less", as(sealed(rawMeta(plain(7))[:30])), api.ErrForm},
		fault{"one byte more", as(sealed(append(rawMeta(plain(7)), 0))), api.ErrForm},
		fault{"another one's", as(sealed(rawMeta(plain(8)))), api.ErrForm},
		fault{"that of one behind 32 bits", as(sealed(rawMeta(plain(1<<32 + 7)))), api.ErrForm},
		fault{"another one's, and altered", func(t testing.TB, st *store.Store, name string) {
			put(t, st, name, sealed(rawMeta(plain(8))))
			altered(t, st, name)
		}, api.ErrSum},
	)
	for _, m := range wrongMetas(7) {
		l = append(l, fault{fmt.Sprint(m), as(sealed(rawMeta(m))), api.ErrForm})
	}
	return l
}

// markerFaults are those of the marker of block 7, or of others.
func markerFaults() []fault {
	l := append(faults(),
		fault{"a meta", as(sealed(rawMeta(plain(7)))), api.ErrForm},
		fault{"one byte less", as(sealed(rawMarker(since(7))[:23])), api.ErrForm},
		fault{"one byte more", as(sealed(append(rawMarker(since(7)), 0))), api.ErrForm},
		fault{"another one's", as(sealed(rawMarker(since(8)))), api.ErrForm},
		fault{"by it, but another one's", as(sealed(rawMarker(api.Marker{Id: 6, At: 3, By: 7}))), api.ErrForm},
		fault{"that of one behind 32 bits", as(sealed(rawMarker(since(1<<32 + 7)))), api.ErrForm},
		fault{"another one's, and altered", func(t testing.TB, st *store.Store, name string) {
			put(t, st, name, sealed(rawMarker(since(8))))
			altered(t, st, name)
		}, api.ErrSum},
	)
	for _, m := range wrongMarkers(7) {
		l = append(l, fault{fmt.Sprint(m), as(sealed(rawMarker(m))), api.ErrForm})
	}
	return l
}

func TestListOfMetasThatAreWrong(t *testing.T) { // P17.2
	for _, x := range metaFaults() {
		for _, live := range [][]uint64{{7}, {3, 7}, {7, 20}, {3, 7, 20}} {
			st := laid(t, live, []uint64{1, 9})
			x.make(t, st, name(7, "m"))
			if r, err := roster.List(st); err != error(x.want) || !isNone(r) {
				t.Errorf("%s: %v, %v; want %v", x.name, r, err, x.want)
			}
			expectNames(t, st, live, []uint64{1, 9})
		}
	}
}

func TestListOfMarkersThatAreWrong(t *testing.T) { // P17.2
	for _, x := range markerFaults() {
		for _, marked := range [][]uint64{{7}, {3, 7}, {7, 20}, {3, 7, 20}} {
			st := laid(t, []uint64{1, 9}, marked)
			x.make(t, st, name(7, "x"))
			if r, err := roster.List(st); err != error(x.want) || !isNone(r) {
				t.Errorf("%s: %v, %v; want %v", x.name, r, err, x.want)
			}
			expectNames(t, st, []uint64{1, 9}, marked)
		}
	}
}

func TestListOfTheIdThatMayNotBe(t *testing.T) { // P17.2
	st := laid(t, []uint64{0}, nil)
	expectNoList(t, st, api.ErrForm)
	st = laid(t, nil, []uint64{0})
	expectNoList(t, st, api.ErrForm)
}

func TestListReadsWhatCounts(t *testing.T) { // P17.2
	// The metas of marked ones, and markers of blocks that aren't there, aren't
	// read: it is no matter what is wrong with them.
	for _, x := range faults() {
		st := laid(t, []uint64{3, 20}, []uint64{5})
		put(t, st, name(8, "x"), sealed(rawMarker(since(8))))
		for _, other := range []string{name(5, "m"), name(8, "x")} {
			x.make(t, st, other)
		}
		put(t, st, name(3, "i"), nil)
		expectList(t, st, rosterOf([]uint64{3, 20}, []uint64{5}))
	}
}

func TestListTellsTheFirstError(t *testing.T) { // P17.2, R1
	live, marked := []uint64{3, 7, 20}, []uint64{1, 5, 9}
	// All of these objects are wrong, by turns in one way or another: what is got
	// first is told.
	var all []string
	for _, id := range live {
		all = append(all, name(id, "m"))
	}
	for _, id := range marked {
		all = append(all, name(id, "x"))
	}
	for first := range all {
		for turn := range 2 {
			st := laid(t, live, marked)
			want := [2]api.Code{api.ErrSum, api.ErrForm}[turn]
			for i, object := range all[first:] {
				if i%2 == turn {
					altered(t, st, object)
				} else {
					put(t, st, object, []byte{1})
				}
			}
			expectNoList(t, st, want)
			// A call that fails comes ahead of what is wrong behind it.
			st.Fail(first + 1)
			expectNoList(t, st, api.ErrFail)
			st.Fail(first + 2)
			expectNoList(t, st, want)
		}
	}
}

func TestListOfAsManyAsMayBe(t *testing.T) { // P17.2
	for _, n := range []int{0, 1, 400, 500, 999, 1000} {
		live, marked := upTo(7, n), upTo(5000, maxBlocks-n)
		st := laid(t, live, marked)
		expectList(t, st, rosterOf(live, marked))
		// What doesn't count makes it no more.
		put(t, st, name(9000, "x"), sealed(rawMarker(since(9000))))
		put(t, st, name(9001, "i"), nil)
		put(t, st, "b/9001/m", nil)
		expectList(t, st, rosterOf(live, marked))
		put(t, st, name(1, "m"), sealed(rawMeta(plain(1))))
		expectNoList(t, st, api.ErrLarge)
		put(t, st, name(1, "x"), sealed(rawMarker(since(1))))
		expectNoList(t, st, api.ErrLarge)
		if err := st.Delete(name(1, "m")); err != nil {
			t.Fatal(err)
		}
		expectList(t, st, rosterOf(live, marked))
	}
}

func TestListOfTooMany(t *testing.T) { // P17.2, R1
	for _, x := range []struct{ live, marked int }{
		{1001, 0}, {0, 1001}, {1000, 1}, {1, 1000}, {501, 500}, {1000, 1000}, {1001, 1001}, {3000, 0}, {0, 3000}, {29000, 0},
	} {
		live, marked := upTo(0, x.live), upTo(70000, x.marked)
		st := laid(t, live, marked)
		was := st.Calls()
		expectNoList(t, st, api.ErrLarge)
		if n := st.Calls() - was; n != 1+len(live)+len(marked) {
			t.Errorf("%d calls; want %d", n, 1+len(live)+len(marked))
		}
		// An error of any of them comes first, that of the last one, too.
		st.Fail(len(live) + len(marked))
		expectNoList(t, st, api.ErrFail)
		if len(marked) > 0 {
			st.Alter(name(marked[len(marked)-1], "x"), 0, 1)
			expectNoList(t, st, api.ErrSum)
		}
		if len(live) > 0 {
			put(t, st, name(live[len(live)-1], "m"), nil)
			expectNoList(t, st, api.ErrForm)
		}
		st.Fail(0)
		expectNoList(t, st, api.ErrFail)
	}
}

func TestListReadsAsItIsWritten(t *testing.T) { // P17.2, P17.5
	st := empty(t)
	m := api.Meta{Id: 255, Level: 2, Start: 7, End: 9, Pages: 2, Traces: 3}
	k := api.Marker{Id: 256, At: 3, By: 255}
	b, _ := meta.Put(m)
	put(t, st, meta.Name(255, "m", 0), b)
	put(t, st, meta.Name(256, "m", 0), b)
	b, _ = meta.Mark(k)
	put(t, st, meta.Name(256, "x", 0), b)
	expectList(t, st, roster.Roster{Live: []api.Meta{m}, Marked: []api.Marker{k}})
}

func TestPut(t *testing.T) { // P17.3
	for _, r := range rosters() {
		x := putRoster(t, r)
		if !bytes.Equal(x, sealed(raw(r))) {
			t.Errorf("Put(%v): %x", r, x)
		}
		if len(x) != 4+31*len(r.Live)+24*len(r.Marked)+4 {
			t.Errorf("Put(%v): %d bytes", r, len(x))
		}
	}
	r := roster.Roster{
		Live: []api.Meta{
			{Id: 3, Pages: 1, Traces: 1},
			{Id: 0x0102030405060708, Level: 9, Start: 0x0a0b0c0d0e, End: 0x0f0b0c0d0e, Pages: 0xa1, Traces: 0x1234},
		},
		Marked: []api.Marker{{Id: 0x1112131415161718, At: 0x1a1b1c1d1e, By: 0x2122232425262728}},
	}
	want := sealed([]byte{
		0, 2,
		0, 1,

		0, 0, 0, 0, 0, 0, 0, 3,
		0, 0, 0, 0, 0, 0, 0, 0,
		0, 0, 0, 0, 0, 0, 0, 0,
		0,
		0, 1,
		0, 0, 0, 1,

		1, 2, 3, 4, 5, 6, 7, 8,
		0, 0, 0, 0x0a, 0x0b, 0x0c, 0x0d, 0x0e,
		0, 0, 0, 0x0f, 0x0b, 0x0c, 0x0d, 0x0e,
		9,
		0, 0xa1,
		0, 0, 0x12, 0x34,

		0x11, 0x12, 0x13, 0x14, 0x15, 0x16, 0x17, 0x18,
		0, 0, 0, 0x1a, 0x1b, 0x1c, 0x1d, 0x1e,
		0x21, 0x22, 0x23, 0x24, 0x25, 0x26, 0x27, 0x28,
	})
	if x := putRoster(t, r); !bytes.Equal(x, want) {
		t.Errorf("%x; want %x", x, want)
	}
	if x := putRoster(t, roster.Roster{}); !bytes.Equal(x, sealed([]byte{0, 0, 0, 0})) {
		t.Errorf("%x", x)
	}
	if x := putRoster(t, roster.Roster{Live: []api.Meta{}, Marked: []api.Marker{}}); !bytes.Equal(x, sealed([]byte{0, 0, 0, 0})) {
		t.Errorf("%x", x)
	}
}

func TestPutOfWhatMayNotBe(t *testing.T) { // P17.3
	for _, r := range wrong() {
		if x, err := roster.Put(r); err != error(api.ErrArg) || len(x) > 0 {
			t.Errorf("Put(%v): %x, %v; want ErrArg", r, x, err)
		}
	}
}

func TestMetasAndMarkersRiseEachByThemselves(t *testing.T) { // P17.3
	for _, r := range []roster.Roster{
		rosterOf([]uint64{5, 9}, []uint64{1, 2}),
		rosterOf([]uint64{1, 2}, []uint64{5, 9}),
		// The promise names no error of an Id that is in both.
		rosterOf([]uint64{5, 9}, []uint64{5, 9}),
	} {
		expectGot(t, putRoster(t, r), r)
	}
}

func TestGet(t *testing.T) { // P17.3, P17.5
	for _, r := range rosters() {
		expectGot(t, sealed(raw(r)), r)
		expectGot(t, putRoster(t, r), r)
	}
}

func TestGetOfTooFewBytesToOpen(t *testing.T) { // P17.3
	for _, x := range [][]byte{nil, {}, {0}, {0, 0}, {0, 0, 0}} {
		expectNotGot(t, x, api.ErrForm)
	}
}

func TestGetOfAnotherSum(t *testing.T) { // P17.3
	for _, r := range rosters()[:7] {
		x := putRoster(t, r)
		for i := range x {
			for bit := range 8 {
				x[i] ^= 1 << bit
				expectNotGot(t, x, api.ErrSum)
				x[i] ^= 1 << bit
			}
		}
		for n := 5; n < len(x); n++ {
			expectNotGot(t, x[:n], api.ErrSum)
		}
		expectNotGot(t, append(bytes.Clone(x), 0), api.ErrSum)
		expectNotGot(t, x[1:], api.ErrSum)
	}
}

func TestGetTellsOpensErrorFirst(t *testing.T) { // P17.3, R1
	// These are neither sealed nor a roster's.
	l := [][]byte{{}, {1}, {0, 0, 0}, {0, 0, 0, 1}, {0, 0, 0, 0, 0}}
	for _, r := range wrong() {
		l = append(l, raw(r))
	}
	for _, b := range l {
		x := sealed(b)
		x[len(x)-1] ^= 1
		expectNotGot(t, x, api.ErrSum)
	}
}

func TestGetOfWhatMayNotBe(t *testing.T) { // P17.3
	for _, r := range wrong() {
		expectNotGot(t, sealed(raw(r)), api.ErrForm)
	}
	// More than an int64 holds.
	for at := range 2 {
		r := rosterOf([]uint64{3, 5}, []uint64{4, 6})
		b := raw(r)
		for _, i := range []int{4 + 31*at + 8, 4 + 31*at + 16, 4 + 2*31 + 24*at + 8} {
			b[i] ^= 128
			expectNotGot(t, sealed(b), api.ErrForm)
			b[i] ^= 128
		}
		expectGot(t, sealed(b), r)
	}
}

func TestGetOfAnotherCount(t *testing.T) { // P17.3
	counts := []int{0, 1, 2, 3, 4, 23, 24, 25, 30, 31, 32, 55, 255, 256, 257, 999, 1000, 1001, 1 << 15, 65535}
	for _, r := range []roster.Roster{{}, rosterOf([]uint64{3}, nil), rosterOf(nil, []uint64{4}), rosterOf([]uint64{3, 5}, []uint64{4, 6, 9}), rosterOf(upTo(0, 31), upTo(50, 24))} {
		for _, live := range counts {
			for _, marked := range counts {
				b := rawOf(live, marked, r)
				if want, ok := gotten(b); ok {
					expectGot(t, sealed(b), want)
				} else {
					expectNotGot(t, sealed(b), api.ErrForm)
				}
			}
		}
	}
	// 24 metas have as many bytes as 31 markers.
	expectNotGot(t, sealed(rawOf(0, 31, rosterOf(upTo(0, 24), nil))), api.ErrForm)
	expectNotGot(t, sealed(rawOf(24, 0, rosterOf(nil, upTo(0, 31)))), api.ErrForm)
}

func TestGetOfBytesThatAreCutOrLeft(t *testing.T) { // P17.3
	for _, r := range rosters()[:7] {
		b := raw(r)
		for n := range b {
			expectNotGot(t, sealed(b[:n]), api.ErrForm)
		}
		for n := range 70 {
			expectNotGot(t, sealed(append(bytes.Clone(b), make([]byte, n+1)...)), api.ErrForm)
			expectNotGot(t, sealed(append(bytes.Clone(b), bytes.Repeat([]byte{255}, n+1)...)), api.ErrForm)
		}
		// A roster sealed twice is no roster's.
		expectNotGot(t, sealed(sealed(b)), api.ErrForm)
	}
}

func TestGetOfOtherForms(t *testing.T) { // P17.3
	m, k := rawMeta(plain(3)), rawMarker(since(5))
	for _, b := range [][]byte{
		// No bytes at all, whose sum is 0.
		nil,
		// With the sums that each one has as an object.
		slices.Concat([]byte{0, 1, 0, 1}, sealed(m), sealed(k)),
		slices.Concat([]byte{0, 1, 0, 0}, sealed(m)),
		slices.Concat([]byte{0, 0, 0, 1}, sealed(k)),
		// Markers first; a count ahead of each kind; counts of another width, or the
		// lowest byte first.
		slices.Concat([]byte{0, 1, 0, 1}, k, m),
		slices.Concat([]byte{0, 1}, m, []byte{0, 1}, k),
		slices.Concat([]byte{1, 1}, m, k),
		slices.Concat([]byte{0, 0, 0, 1, 0, 0, 0, 1}, m, k),
		slices.Concat([]byte{1, 0, 1, 0}, m, k),
		m, k, slices.Concat(m, k),
	} {
		expectNotGot(t, sealed(b), api.ErrForm)
	}
	expectGot(t, sealed(slices.Concat([]byte{0, 1, 0, 1}, m, k)), rosterOf([]uint64{3}, []uint64{5}))
}

func TestCallsOnTheStoreChangeNothing(t *testing.T) { // P17.4, R2
	st := laid(t, []uint64{3, 20, 21}, []uint64{5, 9})
	put(t, st, name(8, "x"), nil)
	put(t, st, name(3, "p000"), []byte{1, 2})
	for range 2 {
		was := had(t, st)
		for n := range 8 {
			st.Fail(n - 1)
			roster.Names(st)
			st.Fail(n - 1)
			roster.List(st)
		}
		is := had(t, st)
		if len(is) != len(was) {
			t.Error("other names")
		}
		for name, b := range was {
			if is[name] != b {
				t.Errorf("%s changed", name)
			}
		}
		st.Alter(name(20, "m"), 1, 1)
	}
}

func TestPutKeepsAndChangesNothing(t *testing.T) { // P17.4, R2
	for _, r := range append(rosters(), wrong()...) {
		// There is room behind each list, that is the caller's.
		live := slices.Concat(r.Live, []api.Meta{plain(77), plain(78)})
		marked := slices.Concat(r.Marked, []api.Marker{since(77), since(78)})
		its := roster.Roster{Live: slices.Clone(live)[:len(r.Live)], Marked: slices.Clone(marked)[:len(r.Marked)]}
		x, err := roster.Put(its)
		if !slices.Equal(its.Live[:len(live)], live) || !slices.Equal(its.Marked[:len(marked)], marked) {
			t.Fatalf("%v; was %v", its, r)
		}
		clear(its.Live[:len(live)])
		clear(its.Marked[:len(marked)])
		if err == nil && !bytes.Equal(x, sealed(raw(r))) {
			t.Errorf("%x: it is kept in what was handed in", x)
		}
	}
}

func TestGetKeepsAndChangesNothing(t *testing.T) { // P17.4, R2
	for _, r := range rosters() {
		x := putRoster(t, r)
		room := append(bytes.Clone(x), 7, 7, 7, 7, 7, 7, 7, 7, 7)
		was := bytes.Clone(room)
		g, err := roster.Get(room[:len(x)])
		if err != nil || !bytes.Equal(room, was) {
			t.Fatalf("%x, %v; was %x", room, err, was)
		}
		clear(room)
		if !same(g, r) {
			t.Errorf("%v: it is kept in what was handed in", g)
		}
	}
}

// scribble alters all of a roster's memory, up to its capacities.
func scribble(r roster.Roster) {
	live, marked := r.Live[:cap(r.Live)], r.Marked[:cap(r.Marked)]
	for i := range live {
		live[i] = plain(5000)
	}
	for i := range marked {
		marked[i] = since(6000)
	}
}

func TestWhatIsToldIsNewMemory(t *testing.T) { // P17.4
	for _, x := range []struct{ live, marked []uint64 }{
		{[]uint64{3, 20}, []uint64{5}},
		{[]uint64{1}, []uint64{2, 3, 4}},
		{upTo(0, 500), upTo(500, 500)},
	} {
		st := laid(t, x.live, x.marked)
		want := rosterOf(x.live, x.marked)
		a, b, _ := roster.Names(st)
		clear(a[:cap(a)])
		if !slices.Equal(b, x.marked) {
			t.Errorf("%v: the two lists share memory", b)
		}
		clear(b[:cap(b)])
		expectNames(t, st, x.live, x.marked)
		r, _ := roster.List(st)
		other, _ := roster.List(st)
		scribble(r)
		if !same(other, want) {
			t.Errorf("%v: two calls of List tell one memory", other)
		}
		expectList(t, st, want)
		y, z := putRoster(t, want), putRoster(t, want)
		clear(y[:cap(y)])
		if !bytes.Equal(z, sealed(raw(want))) {
			t.Errorf("%x: two calls of Put tell one memory", z)
		}
		r, _ = roster.Get(z)
		other, _ = roster.Get(z)
		scribble(r)
		if !same(other, want) || !bytes.Equal(z, sealed(raw(want))) {
			t.Errorf("%v: two calls of Get tell one memory", other)
		}
	}
}

// anyRoster may be, with some metas and markers.
func anyRoster(r *rand.Rand, most int) roster.Roster {
	var l roster.Roster
	id := uint64(0)
	for range r.Intn(most + 1) {
		id += 1 + r.Uint64()>>(12+r.Intn(52))
		start, pages := r.Int63n(maxTime), 1+r.Intn(maxPages)
		l.Live = append(l.Live, api.Meta{
			Id: id, Level: r.Intn(maxLevel + 1), Start: start, End: start + r.Int63n(maxTime-start+1),
			Pages: pages, Traces: pages + r.Intn(pages*(maxTraces-1)+1),
		})
	}
	id = 0
	for range r.Intn(most + 1) {
		id += 1 + r.Uint64()>>(12+r.Intn(52))
		l.Marked = append(l.Marked, api.Marker{Id: id, At: r.Int63n(maxTime + 1), By: id + 1 + r.Uint64()>>1})
	}
	return l
}

func TestWhatWasPutIsGot(t *testing.T) { // P17.5
	r := rand.New(rand.NewSource(175))
	for range 500 {
		l := anyRoster(r, 1+r.Intn(60))
		x := putRoster(t, l)
		if !bytes.Equal(x, sealed(raw(l))) {
			t.Errorf("Put(%v): %x", l, x)
		}
		expectGot(t, x, l)
	}
}

func TestWhatIsListedIsPut(t *testing.T) { // P17.2, P17.3, P17.5
	r := rand.New(rand.NewSource(176))
	for range 100 {
		l := anyRoster(r, 40)
		st := empty(t)
		marked := map[uint64]int{}
		for _, m := range l.Marked {
			marked[m.Id] = 1
			put(t, st, name(m.Id, "m"), nil)
			put(t, st, name(m.Id, "x"), sealed(rawMarker(m)))
		}
		l.Live = slices.DeleteFunc(l.Live, func(m api.Meta) bool { return marked[m.Id] == 1 })
		for _, m := range l.Live {
			put(t, st, name(m.Id, "m"), sealed(rawMeta(m)))
		}
		expectList(t, st, l)
		got, err := roster.List(st)
		if err != nil {
			t.Fatal(err)
		}
		expectGot(t, putRoster(t, got), l)
	}
}

// listed is the chapter's rule, of a store of these objects.
func listed(objects map[string]string) (live, marked []uint64, l roster.Roster, wrong error) {
	var ids []uint64
	for object := range objects {
		if id, what, _, _ := meta.Parse(object); what == "m" {
			ids = append(ids, id)
		}
	}
	slices.Sort(ids)
	for _, id := range ids {
		if _, is := objects[name(id, "x")]; is {
			marked = append(marked, id)
		} else {
			live = append(live, id)
		}
	}
	for _, id := range live {
		m, err := meta.Get([]byte(objects[name(id, "m")]))
		if err == nil && m.Id != id {
			err = api.ErrForm
		}
		if err != nil {
			return live, marked, roster.Roster{}, err
		}
		l.Live = append(l.Live, m)
	}
	for _, id := range marked {
		m, err := meta.Marked([]byte(objects[name(id, "x")]))
		if err == nil && m.Id != id {
			err = api.ErrForm
		}
		if err != nil {
			return live, marked, roster.Roster{}, err
		}
		l.Marked = append(l.Marked, m)
	}
	if len(ids) > 1000 {
		return live, marked, roster.Roster{}, api.ErrLarge
	}
	return live, marked, l, nil
}

// expectAsRuled holds Names and List against the rule.
func expectAsRuled(t testing.TB, st *store.Store) {
	t.Helper()
	live, marked, want, wrong := listed(had(t, st))
	expectNames(t, st, live, marked)
	if l, err := roster.List(st); err != wrong || !same(l, want) {
		t.Errorf("List: %v, %v; want %v, %v", l, err, want, wrong)
	}
	for _, id := range live {
		if slices.Contains(marked, id) {
			t.Errorf("%d is live, and marked", id)
		}
	}
}

func TestOfAnyStore(t *testing.T) { // P17.1, P17.2, P17.5
	r := rand.New(rand.NewSource(177))
	for range 3000 {
		st := empty(t)
		for range r.Intn(24) {
			id := 1 + uint64(r.Intn(9))
			switch r.Intn(8) {
			case 0, 1, 2:
				put(t, st, name(id, "m"), sealed(rawMeta(plain(id))))
			case 3, 4:
				put(t, st, name(id, "x"), sealed(rawMarker(since(id))))
			case 5:
				put(t, st, name(id, []string{"i", "f", "p000", "mm", "xx"}[r.Intn(5)]), nil)
			case 6:
				st.Delete(name(id, []string{"m", "x"}[r.Intn(2)]))
			default:
				if r.Intn(4) == 0 {
					st.Alter(name(id, []string{"m", "x"}[r.Intn(2)]), r.Intn(36), byte(r.Intn(256)))
				}
			}
		}
		expectAsRuled(t, st)
	}
}

func TestNoCallPanics(t *testing.T) { // P1
	r := rand.New(rand.NewSource(178))
	ids := []uint64{0, 1, 2, 3, math.MaxUint64}
	numbers := []int64{math.MinInt64, -1, 0, 1, 2, 3, maxTime, maxTime + 1, math.MaxInt64}
	number := func() int64 { return numbers[r.Intn(len(numbers))] }
	for range 20000 {
		var l roster.Roster
		for range r.Intn(4) {
			m := api.Meta{Id: ids[r.Intn(5)], Level: int(number()), Start: number(), End: number(), Pages: int(number()), Traces: int(number())}
			if r.Intn(3) > 0 {
				m = plain(m.Id)
			}
			l.Live = append(l.Live, m)
		}
		for range r.Intn(4) {
			l.Marked = append(l.Marked, api.Marker{Id: ids[r.Intn(5)], At: number(), By: ids[r.Intn(5)]})
		}
		x, err := roster.Put(l)
		if (err == nil) != may(l) || err != nil && len(x) > 0 {
			t.Fatalf("Put(%v): %x, %v", l, x, err)
		}
		b := make([]byte, r.Intn(120))
		r.Read(b)
		if len(b) > 3 {
			copy(b, []byte{0, byte(r.Intn(4)), 0, byte(r.Intn(4))})
		}
		g, err := roster.Get(sealed(b))
		if _, ok := gotten(b); ok != (err == nil) || err != nil && !isNone(g) {
			t.Fatalf("Get of %x: %v, %v", b, g, err)
		}
		roster.Get(b)
	}
}

func FuzzGet(f *testing.F) { // P17.3, P17.5
	f.Add([]byte{}, true)
	f.Add(raw(roster.Roster{}), true)
	f.Add(raw(rosterOf([]uint64{3, 8}, []uint64{5})), true)
	f.Add(raw(rosterOf([]uint64{8, 3}, []uint64{5, 5})), true)
	f.Add(raw(rosterOf(upTo(0, maxBlocks+1), nil)), true)
	f.Add(putRoster(f, rosterOf([]uint64{5}, []uint64{9})), false)
	f.Fuzz(func(t *testing.T, b []byte, seal bool) {
		x := b
		if seal {
			x = sealed(b)
		}
		if len(x) < 4 {
			expectNotGot(t, x, api.ErrForm)
			return
		}
		inner := x[:len(x)-4]
		if !bytes.Equal(sealed(inner), x) {
			expectNotGot(t, x, api.ErrSum)
			return
		}
		r, ok := gotten(inner)
		if !ok {
			expectNotGot(t, x, api.ErrForm)
			return
		}
		expectGot(t, x, r)
		if y := putRoster(t, r); !bytes.Equal(y, x) {
			t.Errorf("%x is put as %x", x, y)
		}
	})
}

// FuzzList lists whatever objects there are, and whatever is sealed in them.
func FuzzList(f *testing.F) { // P17.1, P17.2, P1
	m, k := rawMeta(plain(7)), rawMarker(since(7))
	f.Add("b/0000000000000007/m", m, "b/0000000000000007/x", k, true)
	f.Add("b/0000000000000007/m", m, "b/0000000000000008/x", k, true)
	f.Add("b/0000000000000007/m", k, "b/0000000000000008/m", m, true)
	f.Add("b/0000000000000007/m", sealed(m), "c/x", k, false)
	f.Fuzz(func(t *testing.T, a string, b []byte, c string, d []byte, seal bool) {
		st := laid(t, []uint64{1, 20}, []uint64{6, 9})
		if seal {
			b, d = sealed(b), sealed(d)
		}
		st.Put(a, b)
		st.Put(c, d)
		expectAsRuled(t, st)
	})
}
