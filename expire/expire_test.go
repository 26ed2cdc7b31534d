package expire_test

import (
	"bytes"
	"encoding/binary"
	"fmt"
	"hash/crc32"
	"math"
	"math/big"
	"math/rand"
	"slices"
	"testing"

	"tankard/api"
	"tankard/block"
	"tankard/expire"
	"tankard/meta"
	"tankard/plan"
	"tankard/read"
	"tankard/roster"
	"tankard/store"
)

const (
	maxTime   = 1 << 40
	maxTraces = 64
	maxPages  = 200
	maxLevel  = 10
	maxRoom   = 1 << 20

	// markerSize is how many bytes a marker has.
	markerSize = 8 + 8 + 8 + 4
)

// small are sizes by which each trace, of the least bytes, has a page of its own.
var small = api.Sizes{Page: 64, Shards: 1, Bits: 64, Hashes: 2}

// ending is a meta that may be, with that End.
func ending(id uint64, end int64) api.Meta {
	return api.Meta{Id: id, Level: int(id % 11), Start: end - end/3, End: end, Pages: 2, Traces: 3}
}

// ended are metas with these Ends, by rising Ids from 1 on.
func ended(ends ...int64) []api.Meta {
	var l []api.Meta
	for i, end := range ends {
		l = append(l, ending(uint64(i)+1, end))
	}
	return l
}

// alike are n metas with one End.
func alike(n int, end int64) []api.Meta {
	var l []api.Meta
	for i := range n {
		l = append(l, ending(uint64(i)*3+2, end))
	}
	return l
}

// wrongMetas may not be, each by one thing, of that Id.
func wrongMetas(id uint64) []api.Meta {
	l := make([]api.Meta, 13)
	for i := range l {
		l[i] = api.Meta{Id: id, Level: 3, Start: 4, End: 9, Pages: 2, Traces: 3}
	}
	l[0].Id = 0
	l[1].Level = -1
	l[2].Level = maxLevel + 1
	l[3].Start = -1
	l[4].Start = 10
	l[5].End = maxTime + 1
	l[6].Pages, l[6].Traces = 0, 0
	l[7].Pages, l[7].Traces = maxPages+1, maxPages+1
	l[8].Traces = 1
	l[9].Traces = 2*maxTraces + 1
	l[10].Level = math.MaxInt
	l[11].Start, l[11].End = -9, -5
	l[12] = api.Meta{}
	return l
}

func sealed(b []byte) []byte {
	return binary.BigEndian.AppendUint32(bytes.Clone(b), crc32.ChecksumIEEE(b))
}

// markerBytes are a marker's.
func markerBytes(m api.Marker) []byte {
	b := binary.BigEndian.AppendUint64(nil, m.Id)
	b = binary.BigEndian.AppendUint64(b, uint64(m.At))
	return sealed(binary.BigEndian.AppendUint64(b, m.By))
}

// name is what chapter 13 says.
func name(id uint64, what string) string { return fmt.Sprintf("b/%016x/%s", id, what) }

func roomy(t testing.TB, room int) *store.Store {
	t.Helper()
	st, err := store.New(room)
	if err != nil {
		t.Fatal(err)
	}
	return st
}

func put(t testing.TB, st *store.Store, name string, b []byte) {
	t.Helper()
	if err := st.Put(name, b); err != nil {
		t.Fatal(name, err)
	}
}

// had are all objects of a store: calls that go well.
func had(t testing.TB, st *store.Store) map[string]string {
	t.Helper()
	st.Fail(-1)
	names, err := st.List("")
	if err != nil {
		t.Fatal(err)
	}
	l := map[string]string{}
	for _, name := range names {
		b, err := st.Get(name)
		if err != nil {
			t.Fatal(err)
		}
		l[name] = string(b)
	}
	return l
}

// expectObjects expects that a store has just these.
func expectObjects(t testing.TB, st *store.Store, want map[string]string) {
	t.Helper()
	is := had(t, st)
	for name, b := range want {
		if x, ok := is[name]; !ok || x != b {
			t.Fatalf("%s: %x, %t; want %x", name, x, ok, b)
		}
	}
	for name := range is {
		if _, ok := want[name]; !ok {
			t.Fatalf("%s is there", name)
		}
	}
}

// over are the Ids of those that have run out, in order, by sums that 64 bits
// needn't hold.
func over(l []api.Meta, now, retention int64) []uint64 {
	var ids []uint64
	for _, m := range l {
		sum := new(big.Int).Add(big.NewInt(m.End), big.NewInt(retention))
		if sum.Cmp(big.NewInt(now)) <= 0 {
			ids = append(ids, m.Id)
		}
	}
	return ids
}

// marked adds the markers of these, put at that tick, to objects.
func marked(objects map[string]string, ids []uint64, now int64) {
	for _, id := range ids {
		objects[name(id, "x")] = string(markerBytes(api.Marker{Id: id, At: now}))
	}
}

// expectMark expects that just these are marked, by as many calls of the store,
// and that nothing else is changed.
func expectMark(t testing.TB, st *store.Store, l []api.Meta, now, retention int64, ids ...uint64) {
	t.Helper()
	objects := had(t, st)
	was := st.Calls()
	n, err := expire.Mark(st, l, now, retention)
	if n != len(ids) || err != nil {
		t.Fatalf("Mark(%v, %d, %d): %d, %v; want %d", l, now, retention, n, err, len(ids))
	}
	if calls := st.Calls() - was; calls != len(ids) {
		t.Fatalf("Mark: %d calls; want %d", calls, len(ids))
	}
	marked(objects, ids, now)
	expectObjects(t, st, objects)
}

// expectFails expects an error at the Put behind so many of these, which are
// marked then, and no others: there are no more calls of the store.
func expectFails(t testing.TB, st *store.Store, l []api.Meta, now, retention int64, ids []uint64, well int, want error) {
	t.Helper()
	was := st.Calls()
	n, err := expire.Mark(st, l, now, retention)
	if n != well || err != want {
		t.Fatalf("Mark(%v, %d, %d): %d, %v; want %d, %v", l, now, retention, n, err, well, want)
	}
	if calls := st.Calls() - was; calls != well+1 {
		t.Fatalf("Mark: %d calls; want %d", calls, well+1)
	}
	for i, id := range ids {
		b, err := st.Get(name(id, "x"))
		if (err == nil) != (i < well) {
			t.Fatalf("the marker of %d: %v", id, err)
		}
		if want := markerBytes(api.Marker{Id: id, At: now}); i < well && !bytes.Equal(b, want) {
			t.Fatalf("the marker of %d: %x; want %x", id, b, want)
		}
	}
}

// expectNoMark expects ErrArg, by no call of the store.
func expectNoMark(t testing.TB, st *store.Store, l []api.Meta, now, retention int64) {
	t.Helper()
	was := 0
	if st != nil {
		was = st.Calls()
	}
	if n, err := expire.Mark(st, l, now, retention); n != 0 || err != error(api.ErrArg) {
		t.Fatalf("Mark(%v, %d, %d): %d, %v; want %v", l, now, retention, n, err, api.ErrArg)
	}
	if st != nil && st.Calls() != was {
		t.Fatal("Mark: calls")
	}
}

func TestExample(t *testing.T) { // P21.1, the chapter's example
	expectMark(t, roomy(t, maxRoom), ended(6, 9, 20), 10, 5)
}

func TestMarkOfNone(t *testing.T) { // P21.1
	st := roomy(t, maxRoom)
	put(t, st, name(4, "x"), []byte("a"))
	for _, n := range []int64{0, 1, maxTime - 1, maxTime} {
		for _, k := range []int64{0, 1, maxTime - 1, maxTime} {
			expectMark(t, st, nil, n, k)
			expectMark(t, st, []api.Meta{}, n, k)
		}
	}
}

func TestMarkOfSomeAndAll(t *testing.T) { // P21.1, P21.3
	l := ended(7, 3, 12, 3, 0, 25)
	for _, c := range []struct {
		now, retention int64
		ids            []uint64
	}{
		{4, 5, nil},
		{5, 5, []uint64{5}},
		{7, 5, []uint64{5}},
		{8, 5, []uint64{2, 4, 5}},
		{12, 5, []uint64{1, 2, 4, 5}},
		{16, 5, []uint64{1, 2, 4, 5}},
		{17, 5, []uint64{1, 2, 3, 4, 5}},
		{29, 5, []uint64{1, 2, 3, 4, 5}},
		{30, 5, []uint64{1, 2, 3, 4, 5, 6}},
		{maxTime, 5, []uint64{1, 2, 3, 4, 5, 6}},
		{0, 0, []uint64{5}},
		{12, 0, []uint64{1, 2, 3, 4, 5}},
		{maxTime, maxTime, []uint64{5}},
		{maxTime, maxTime - 3, []uint64{2, 4, 5}},
		{maxTime - 1, maxTime, nil},
	} {
		st := roomy(t, maxRoom)
		expectMark(t, st, l, c.now, c.retention, c.ids...)
		// And what is marked already, anew.
		expectMark(t, st, l, c.now, c.retention, c.ids...)
	}
}

// TestMarkAtTheBound has an End and a retention that are just now, one less, and
// one more.
func TestMarkAtTheBound(t *testing.T) { // P21.1, P21.3
	for _, end := range []int64{0, 1, 2, 9, 1000, 1 << 32, maxTime - 1, maxTime} {
		for _, retention := range []int64{0, 1, 2, 8, 999, 1 << 33, maxTime - 1, maxTime} {
			for now := end + retention - 1; now <= end+retention+1; now++ {
				st, l := roomy(t, maxRoom), alike(1, end)
				switch {
				case now < 0 || now > maxTime:
					expectNoMark(t, st, l, now, retention)
				case now < end+retention:
					expectMark(t, st, l, now, retention)
				default:
					expectMark(t, st, l, now, retention, 2)
				}
			}
		}
	}
}

func TestOnlyTheEndCounts(t *testing.T) { // P21.1, P21.3
	all := uint64(math.MaxUint64)
	l := []api.Meta{
		{Id: all, Level: maxLevel, Start: 0, End: 10, Pages: maxPages, Traces: maxPages * maxTraces},
		{Id: 9, Level: 0, Start: 10, End: 10, Pages: 1, Traces: 1},
		{Id: 8, Level: 0, Start: 0, End: 11, Pages: 1, Traces: 1},
		{Id: 1, Level: 5, Start: 3, End: 10, Pages: 1, Traces: maxTraces},
		{Id: all - 1, Level: maxLevel, Start: 11, End: 11, Pages: 1, Traces: 1},
	}
	expectMark(t, roomy(t, maxRoom), l, 15, 5, all, 9, 1)
	expectMark(t, roomy(t, maxRoom), l, 16, 5, all, 9, 8, 1, all-1)
}

// TestTheMarkerTellsAll has it as bytes, and as what is told of them.
func TestTheMarkerTellsAll(t *testing.T) { // P21.1
	for _, id := range []uint64{1, 2, 255, 1 << 40, math.MaxUint64} {
		for _, now := range []int64{0, 1, 77, maxTime} {
			st := roomy(t, maxRoom)
			expectMark(t, st, []api.Meta{ending(id, 0)}, now, 0, id)
			b, err := st.Get(meta.Name(id, "x", 0))
			if err != nil {
				t.Fatal(err)
			}
			want := api.Marker{Id: id, At: now, By: 0}
			if m, err := meta.Marked(b); m != want || err != nil {
				t.Errorf("%v, %v; want %v", m, err, want)
			}
		}
	}
}

func TestMarkOfWhatMayNotBe(t *testing.T) { // P21.1
	st := roomy(t, maxRoom)
	expectNoMark(t, nil, nil, 10, 5)
	expectNoMark(t, nil, []api.Meta{}, 10, 5)
	expectNoMark(t, nil, ended(3, 4), 10, 5)
	expectNoMark(t, nil, wrongMetas(3), -1, -1)
	expectNoMark(t, nil, ended(30), 10, 5)
	for _, l := range [][]api.Meta{nil, {}, ended(3), ended(3, 4, 90), ended(maxTime)} {
		for _, n := range []int64{-1, -5, maxTime + 1, math.MinInt64, math.MaxInt64} {
			expectNoMark(t, st, l, n, 5)
			expectNoMark(t, st, l, 10, n)
			expectNoMark(t, st, l, n, n)
			expectNoMark(t, st, l, maxTime, n)
			expectNoMark(t, st, l, n, 0)
		}
	}
	if n := len(had(t, st)); n != 0 {
		t.Errorf("%d objects", n)
	}
}

// TestAMetaThatMayNotBe has one wherever it stands, and whether it has run out or
// not.
func TestAMetaThatMayNotBe(t *testing.T) { // P21.1
	st := roomy(t, maxRoom)
	for n := 1; n <= 5; n++ {
		for at := range n {
			for _, m := range wrongMetas(50) {
				l := alike(n, 3)
				l[at] = m
				for _, now := range []int64{0, 8, 13, 14, 15, maxTime} {
					expectNoMark(t, st, l, now, 5)
				}
			}
			l := alike(n, maxTime)
			l[at].Traces = 0
			expectNoMark(t, st, l, 10, 5)
		}
	}
	expectNoMark(t, st, make([]api.Meta, 100000), 10, 5)
	if n := len(had(t, st)); n != 0 {
		t.Errorf("%d objects", n)
	}
}

func TestMetasAtTheirBounds(t *testing.T) { // P21.1
	all := uint64(math.MaxUint64)
	for _, m := range []api.Meta{
		{Id: 1, Pages: 1, Traces: 1},
		{Id: all, Level: maxLevel, Start: maxTime, End: maxTime, Pages: maxPages, Traces: maxPages * maxTraces},
		{Id: all, Pages: maxPages, Traces: maxPages},
		{Id: 1, End: maxTime, Pages: 1, Traces: maxTraces},
	} {
		expectMark(t, roomy(t, maxRoom), []api.Meta{m}, maxTime, 0, m.Id)
	}
}

func TestMarkInOrder(t *testing.T) { // P21.1
	// In that of the list, whatever their Ids and Ends are.
	l := []api.Meta{ending(9, 5), ending(3, 90), ending(4, 1), ending(8, 3), ending(1, 2), ending(6, 5)}
	ids := []uint64{9, 4, 8, 1, 6}
	st := roomy(t, maxRoom)
	expectMark(t, st, l, 10, 5, ids...)
	for well := range ids {
		st := roomy(t, maxRoom)
		st.Fail(well)
		expectFails(t, st, l, 10, 5, ids, well, api.ErrFail)
	}
}

func TestEachPutThatFails(t *testing.T) { // P21.1, P21.3
	for n := 1; n <= 12; n++ {
		// Between them are those that haven't run out.
		var l []api.Meta
		for i := range n * 2 {
			l = append(l, ending(uint64(n*2-i), int64(5+i%2*50)))
		}
		ids := over(l, 10, 5)
		if len(ids) != n {
			t.Fatalf("%v", ids)
		}
		for well := range n {
			st := roomy(t, maxRoom)
			put(t, st, name(99, "m"), []byte("a"))
			objects := had(t, st)
			st.Fail(well)
			expectFails(t, st, l, 10, 5, ids, well, api.ErrFail)
			marked(objects, ids[:well], 10)
			expectObjects(t, st, objects)
			// Anew, it marks all of them.
			expectMark(t, st, l, 11, 5, ids...)
		}
		// A call behind all of them isn't made.
		st := roomy(t, maxRoom)
		st.Fail(n)
		if n, err := expire.Mark(st, l, 10, 5); n != len(ids) || err != nil {
			t.Fatalf("%d, %v", n, err)
		}
		if _, err := st.List(""); err != error(api.ErrFail) {
			t.Fatal("a call more")
		}
	}
}

// TestNoPutThatFails has none that has run out: no call, of which one could fail.
func TestNoPutThatFails(t *testing.T) { // P21.1
	st := roomy(t, maxRoom)
	st.Fail(0)
	if n, err := expire.Mark(st, ended(6, 7, 8), 10, 5); n != 0 || err != nil {
		t.Fatalf("%d, %v", n, err)
	}
	expectNoMark(t, st, ended(3, -1), 10, 5)
	expectNoMark(t, st, ended(3), -1, 5)
	if _, err := st.List(""); err != error(api.ErrFail) {
		t.Fatal("a call")
	}
}

func TestFull(t *testing.T) { // P21.1
	l := ended(3, 60, 4, 5, 70, 1)
	ids := []uint64{1, 3, 4, 6}
	for room := 1; room <= len(ids)*markerSize+3; room++ {
		st := roomy(t, room)
		well := room / markerSize
		if well >= len(ids) {
			expectMark(t, st, l, 10, 5, ids...)
			continue
		}
		expectFails(t, st, l, 10, 5, ids, well, api.ErrFull)
		objects := map[string]string{}
		marked(objects, ids[:well], 10)
		expectObjects(t, st, objects)
	}
}

// TestFullOfOtherObjects has room that blocks take.
func TestFullOfOtherObjects(t *testing.T) { // P21.1
	l := ended(3, 60, 4, 5)
	ids := []uint64{1, 3, 4}
	for left := range len(ids) * markerSize {
		st := roomy(t, 1000)
		put(t, st, name(1, "m"), make([]byte, 1000-left))
		objects := had(t, st)
		well := left / markerSize
		expectFails(t, st, l, 10, 5, ids, well, api.ErrFull)
		marked(objects, ids[:well], 10)
		expectObjects(t, st, objects)
	}
	// What is put anew needs no more room than there was.
	st := roomy(t, len(ids)*markerSize)
	expectMark(t, st, l, 10, 5, ids...)
	expectMark(t, st, l, 20, 5, ids...)
	// But what is there beside it stands in the way, and a call may fail ahead.
	expectFails(t, st, ended(3, 4), 30, 5, []uint64{1}, 1, api.ErrFull)
	st.Fail(0)
	if n, err := expire.Mark(st, ended(3, 4), 30, 5); n != 0 || err != error(api.ErrFail) {
		t.Errorf("%d, %v", n, err)
	}
}

// TestWhatIsMarkedIsMarkedAnew has markers, of a merging or not, and of any bytes.
func TestWhatIsMarkedIsMarkedAnew(t *testing.T) { // P21.1
	for _, b := range [][]byte{
		nil, []byte("a"), make([]byte, 500),
		markerBytes(api.Marker{Id: 1, At: 3, By: 7}),
		markerBytes(api.Marker{Id: 1, At: 50}),
		markerBytes(api.Marker{Id: 4, At: 3}),
	} {
		st := roomy(t, maxRoom)
		put(t, st, name(1, "x"), b)
		put(t, st, name(2, "x"), b)
		expectMark(t, st, ended(3, 40), 10, 5, 1)
	}
}

// TestOneMoreThanOnce marks it as often.
func TestOneMoreThanOnce(t *testing.T) { // P21.1
	one := ending(7, 3)
	expectMark(t, roomy(t, maxRoom), []api.Meta{one, one, ending(7, 60), one}, 10, 5, 7, 7, 7)
	st := roomy(t, maxRoom)
	st.Fail(2)
	if n, err := expire.Mark(st, []api.Meta{one, one, one, one}, 10, 5); n != 2 || err != error(api.ErrFail) {
		t.Errorf("%d, %v", n, err)
	}
}

func TestWhatIsHandedInStays(t *testing.T) { // P21.2
	l := ended(3, 60, 4, 5, 70, 1)
	for _, fail := range []int{-1, 0, 2} {
		mine := append(slices.Clone(l), ending(99, 4))[:len(l)]
		st := roomy(t, maxRoom)
		st.Fail(fail)
		expire.Mark(st, mine, 10, 5)
		if !slices.Equal(mine, l) || mine[:len(mine)+1][len(mine)] != ending(99, 4) {
			t.Errorf("%v; was %v", mine, l)
		}
	}
	// What is done with it behind the call is no matter, nor what was called ahead.
	st := roomy(t, maxRoom)
	mine := slices.Clone(l)
	expectMark(t, st, mine, 10, 5, 1, 3, 4, 6)
	objects := had(t, st)
	clear(mine)
	expectObjects(t, st, objects)
	other := roomy(t, maxRoom)
	expectMark(t, other, ended(20, 3), 10, 5, 2)
	expectObjects(t, st, objects)
}

// TestBlocks has blocks that are there: what they have stays, and they count no
// more.
func TestBlocks(t *testing.T) { // P21.1, P21.3
	st := roomy(t, maxRoom)
	var l []api.Meta
	for id := range uint64(6) {
		a := api.Trace{Id: id}
		for k := range int64(3) {
			a.Spans = append(a.Spans, api.Span{Trace: id, Id: uint64(k), Start: k, End: int64(id)*10 + k})
		}
		m, err := block.Write(st, id+1, int(id), []api.Trace{a}, small)
		if err != nil {
			t.Fatal(err)
		}
		l = append(l, m)
	}
	expectMark(t, st, l, 37, 5, 1, 2, 3, 4)
	r, err := roster.List(st)
	if err != nil || !slices.Equal(r.Live, l[4:]) || len(r.Marked) != 4 {
		t.Fatalf("%v, %v", r, err)
	}
	for i, m := range r.Marked {
		if want := (api.Marker{Id: uint64(i) + 1, At: 37}); m != want {
			t.Errorf("%v; want %v", m, want)
		}
	}
	// What is live has run out of none of it.
	if out, err := plan.Out(r.Live, 37, 5); len(out) > 0 || err != nil {
		t.Errorf("%v, %v", out, err)
	}
	for id := range uint64(6) {
		if s, err := read.Find(st, id+1, id); len(s) != 3 || err != nil {
			t.Errorf("%v, %v", s, err)
		}
	}
	// Of a roster, poll by poll.
	expectMark(t, st, r.Live, 46, 5)
	expectMark(t, st, r.Live, 47, 5, 5)
	if r, err = roster.List(st); err != nil || !slices.Equal(r.Live, l[5:]) {
		t.Errorf("%v, %v", r, err)
	}
}

// model marks, in a store of its own, as the chapter says it.
func model(st *store.Store, l []api.Meta, now, retention int64) (int, error) {
	for _, m := range l {
		ok := m.Id > 0 && m.Level >= 0 && m.Level <= maxLevel &&
			m.Start >= 0 && m.Start <= m.End && m.End <= maxTime &&
			m.Pages >= 1 && m.Pages <= maxPages && m.Traces >= m.Pages && m.Traces <= m.Pages*maxTraces
		if !ok {
			return 0, api.ErrArg
		}
	}
	if now < 0 || now > maxTime || retention < 0 || retention > maxTime {
		return 0, api.ErrArg
	}
	n := 0
	for _, id := range over(l, now, retention) {
		if err := st.Put(name(id, "x"), markerBytes(api.Marker{Id: id, At: now})); err != nil {
			return n, err
		}
		n++
	}
	return n, nil
}

// both are a store, and the model's beside it.
type both struct {
	st, other *store.Store
	kinds     map[string]int
}

func newBoth(t testing.TB, room int) *both {
	t.Helper()
	return &both{roomy(t, room), roomy(t, room), map[string]int{}}
}

// mark marks in both, and holds one against the other.
func (x *both) mark(t testing.TB, l []api.Meta, now, retention int64) {
	t.Helper()
	mine := slices.Clone(l)
	want, wrong := model(x.other, l, now, retention)
	n, err := expire.Mark(x.st, l, now, retention)
	if n != want || err != wrong {
		t.Fatalf("Mark(%v, %d, %d): %d, %v; want %d, %v", l, now, retention, n, err, want, wrong)
	}
	if a, b := x.st.Calls(), x.other.Calls(); a != b {
		t.Fatalf("Mark: %d calls; want %d", a, b)
	}
	if !slices.Equal(l, mine) {
		t.Fatalf("%v; was %v", l, mine)
	}
	x.kinds[fmt.Sprint(err, n > 0)]++
}

// do does one of what may be done, as these three tell.
func (x *both) do(t testing.TB, r *rand.Rand, kind, which, how int) {
	t.Helper()
	switch kind % 8 {
	case 0:
		x.st.Fail(how % 8)
		x.other.Fail(how % 8)
	case 1:
		x.st.Delete(name(uint64(which), "x"))
		x.other.Delete(name(uint64(which), "x"))
	default:
		x.mark(t, anyMetas(r, which%20), anyTick(r), anyTick(r))
	}
}

// anyTick is one that may be, for the most part.
func anyTick(r *rand.Rand) int64 {
	if r.Intn(20) == 0 {
		return []int64{-1, maxTime + 1, math.MaxInt64, math.MinInt64, maxTime}[r.Intn(5)]
	}
	return r.Int63n(40)
}

// anyMetas may be, for the most part.
func anyMetas(r *rand.Rand, n int) []api.Meta {
	var l []api.Meta
	for range n {
		l = append(l, ending(uint64(r.Intn(30))+1, r.Int63n(30)))
	}
	if n > 0 && r.Intn(10) == 0 {
		wrong := wrongMetas(9)
		l[r.Intn(n)] = wrong[r.Intn(len(wrong))]
	}
	return l
}

func TestRowsOfAnyCalls(t *testing.T) { // P21.1 to P21.3, P1
	r := rand.New(rand.NewSource(211))
	kinds := map[string]int{}
	for range 300 {
		x := newBoth(t, 100+r.Intn(800))
		for range r.Intn(60) {
			x.do(t, r, r.Intn(256), r.Intn(40), r.Intn(256))
		}
		expectObjects(t, x.st, had(t, x.other))
		for kind, n := range x.kinds {
			kinds[kind] += n
		}
	}
	// Else the rows would hold little.
	for _, kind := range []string{
		fmt.Sprint(nil, false), fmt.Sprint(nil, true), fmt.Sprint(api.ErrArg, false),
		fmt.Sprint(api.ErrFail, false), fmt.Sprint(api.ErrFail, true),
		fmt.Sprint(api.ErrFull, false), fmt.Sprint(api.ErrFull, true),
	} {
		if kinds[kind] < 100 {
			t.Errorf("%s: %d", kind, kinds[kind])
		}
	}
}

// FuzzMark marks whatever is handed in, beside the model.
func FuzzMark(f *testing.F) { // P21.1 to P21.3, P1
	f.Add(uint64(1), 0, int64(2), int64(9), 2, 2, uint64(2), int64(3), int64(14), int64(5), 1000, -1)
	f.Add(uint64(1), 10, int64(0), int64(maxTime), 200, 12800, uint64(1), int64(0), int64(maxTime), int64(0), 30, -1)
	f.Add(uint64(0), -1, int64(-1), int64(-9), 0, 0, uint64(0), int64(0), int64(-1), int64(maxTime+1), 1, 1)
	f.Add(uint64(math.MaxUint64), 3, int64(4), int64(9), 2, 3, uint64(7), int64(5), int64(9), int64(0), 100, 1)
	f.Fuzz(func(t *testing.T, a uint64, level int, start, end int64, pages, traces int, b uint64, second, now, retention int64, room, fail int) {
		x := newBoth(t, 1+int(uint(room)%1000))
		x.st.Fail(fail)
		x.other.Fail(fail)
		first := api.Meta{Id: a, Level: level, Start: start, End: end, Pages: pages, Traces: traces}
		x.mark(t, []api.Meta{first, ending(b, second), first}, now, retention)
		x.mark(t, []api.Meta{ending(b, second)}, now, retention)
		x.mark(t, []api.Meta{first}, now, retention)
		expectObjects(t, x.st, had(t, x.other))
	})
}
