package poll_test

import (
	"bytes"
	"encoding/binary"
	"fmt"
	"hash/crc32"
	"math"
	"math/rand"
	"slices"
	"testing"

	"tankard/api"
	"tankard/block"
	"tankard/meta"
	"tankard/poll"
	"tankard/roster"
	"tankard/store"
)

const (
	maxTime   = 1 << 40
	maxPages  = 200
	maxTraces = 64
	maxLevel  = 10
	maxRoom   = 1 << 20
	maxBlocks = 1000
)

// plain is a meta that may be.
func plain(id uint64) api.Meta {
	return api.Meta{Id: id, Level: int(id % 11), Start: int64(id % 7), End: int64(id%7 + id%1000), Pages: 2, Traces: 3}
}

// later is another meta of that Id.
func later(id uint64) api.Meta {
	m := plain(id)
	m.Traces++
	return m
}

// since is a marker that may be.
func since(id uint64) api.Marker { return api.Marker{Id: id, At: int64(id % 900), By: id + 1} }

// rosterOf has plain metas and markers of these Ids.
func rosterOf(live, marked []uint64) roster.Roster {
	var r roster.Roster
	for _, id := range live {
		r.Live = append(r.Live, plain(id))
	}
	for _, id := range marked {
		r.Marked = append(r.Marked, since(id))
	}
	return r
}

// upTo are so many Ids, behind this one.
func upTo(first uint64, n int) []uint64 {
	var l []uint64
	for i := range n {
		l = append(l, first+uint64(i)+1)
	}
	return l
}

// rosters are such as a store may have: ordinary ones, and at the bounds.
func rosters() []roster.Roster {
	all := uint64(math.MaxUint64)
	return []roster.Roster{
		{},
		rosterOf([]uint64{1}, nil),
		rosterOf(nil, []uint64{1}),
		rosterOf([]uint64{3}, []uint64{5}),
		rosterOf([]uint64{5}, []uint64{3}),
		rosterOf([]uint64{3, 20}, []uint64{5}),
		rosterOf([]uint64{7}, []uint64{2, 3, 900}),
		rosterOf([]uint64{1, 2, 3, 4}, nil),
		rosterOf(nil, []uint64{1, 2, 3, 4}),
		rosterOf([]uint64{1, 3, 5}, []uint64{2, 4, 6}),
		rosterOf([]uint64{9, 10, 15, 16, 255, 256}, []uint64{159, 160, 4095, 4096}),
		{Live: []api.Meta{{Id: 1, Pages: 1, Traces: 1}}, Marked: []api.Marker{{Id: 2}}},
		{
			Live: []api.Meta{
				{Id: 1 << 63, Start: 0, End: maxTime, Pages: maxPages, Traces: maxPages},
				{Id: all, Level: maxLevel, Start: maxTime, End: maxTime, Pages: maxPages, Traces: maxPages * maxTraces},
			},
			Marked: []api.Marker{{Id: 1, At: 0, By: all}, {Id: all - 1, At: maxTime, By: all}},
		},
		rosterOf(upTo(7, maxBlocks), nil),
		rosterOf(nil, upTo(7, maxBlocks)),
		rosterOf(upTo(7, 400), upTo(5000, maxBlocks-400)),
	}
}

func sealed(b []byte) []byte {
	return binary.BigEndian.AppendUint32(bytes.Clone(b), crc32.ChecksumIEEE(b))
}

// rawMeta is the bytes, without their sum, of a meta that may be or not.
func rawMeta(m api.Meta) []byte {
	b := binary.BigEndian.AppendUint64(nil, m.Id)
	b = binary.BigEndian.AppendUint64(b, uint64(m.Start))
	b = binary.BigEndian.AppendUint64(b, uint64(m.End))
	b = append(b, byte(m.Level))
	b = binary.BigEndian.AppendUint16(b, uint16(m.Pages))
	return binary.BigEndian.AppendUint32(b, uint32(m.Traces))
}

// rawMarker is that of a marker.
func rawMarker(m api.Marker) []byte {
	b := binary.BigEndian.AppendUint64(nil, m.Id)
	b = binary.BigEndian.AppendUint64(b, uint64(m.At))
	return binary.BigEndian.AppendUint64(b, m.By)
}

// name is what chapter 13 says.
func name(id uint64, what string) string { return fmt.Sprintf("b/%016x/%s", id, what) }

func empty(t testing.TB) *store.Store {
	t.Helper()
	st, err := store.New(maxRoom)
	if err != nil {
		t.Fatal(err)
	}
	return st
}

func put(t testing.TB, st *store.Store, name string, b []byte) {
	t.Helper()
	if err := st.Put(name, b); err != nil {
		t.Fatal(name, err)
	}
}

func drop(t testing.TB, st *store.Store, name string) {
	t.Helper()
	if err := st.Delete(name); err != nil {
		t.Fatal(name, err)
	}
}

func putMeta(t testing.TB, st *store.Store, m api.Meta) {
	t.Helper()
	put(t, st, name(m.Id, "m"), sealed(rawMeta(m)))
}

func putMarker(t testing.TB, st *store.Store, m api.Marker) {
	t.Helper()
	put(t, st, name(m.Id, "x"), sealed(rawMarker(m)))
}

// lay puts what this roster has in a store.
func lay(t testing.TB, st *store.Store, r roster.Roster) {
	t.Helper()
	for _, m := range r.Live {
		putMeta(t, st, m)
	}
	for _, m := range r.Marked {
		putMeta(t, st, plain(m.Id))
		putMarker(t, st, m)
	}
}

// laid is a store with these blocks, and their markers.
func laid(t testing.TB, live, marked []uint64) *store.Store {
	t.Helper()
	st := empty(t)
	lay(t, st, rosterOf(live, marked))
	return st
}

// had are all objects of a store: calls that go well.
func had(t testing.TB, st *store.Store) map[string]string {
	t.Helper()
	st.Fail(-1)
	names, err := st.List("")
	if err != nil {
		t.Fatal(err)
	}
	l := map[string]string{}
	for _, name := range names {
		b, err := st.Get(name)
		if err != nil {
			t.Fatal(err)
		}
		l[name] = string(b)
	}
	return l
}

// relay puts what this roster has in a store, in place of all else.
func relay(t testing.TB, st *store.Store, r roster.Roster) {
	t.Helper()
	for name := range had(t, st) {
		drop(t, st, name)
	}
	lay(t, st, r)
}

// objects are what is got of these blocks, in that order.
func objects(live, marked []uint64) []string {
	var l []string
	for _, id := range live {
		l = append(l, name(id, "m"))
	}
	for _, id := range marked {
		l = append(l, name(id, "x"))
	}
	return l
}

func same(a, b roster.Roster) bool {
	return slices.Equal(a.Live, b.Live) && slices.Equal(a.Marked, b.Marked)
}

// size is how many blocks a roster has.
func size(r roster.Roster) int { return len(r.Live) + len(r.Marked) }

func made(t testing.TB, st *store.Store) *poll.Poller {
	t.Helper()
	p, err := poll.New(st)
	if err != nil || p == nil {
		t.Fatalf("New: %v, %v", p, err)
	}
	return p
}

// expect holds a poller's roster, and how many runs got whole.
func expect(t testing.TB, p *poll.Poller, want roster.Roster, runs int) {
	t.Helper()
	if r := p.Roster(); !same(r, want) {
		t.Fatalf("Roster: %v; want %v", r, want)
	}
	if n := p.Runs(); n != runs {
		t.Fatalf("Runs: %d; want %d", n, runs)
	}
}

// expectStep does a step: one call of the store, whatever comes of it.
func expectStep(t testing.TB, p *poll.Poller, st *store.Store, want bool) {
	t.Helper()
	was := st.Calls()
	if whole, err := p.Step(); whole != want || err != nil {
		t.Fatalf("Step: %v, %v; want %v", whole, err, want)
	}
	if n := st.Calls() - was; n != 1 {
		t.Fatalf("Step: %d calls; want one", n)
	}
}

func expectNoStep(t testing.TB, p *poll.Poller, st *store.Store, want api.Code) {
	t.Helper()
	was := st.Calls()
	if whole, err := p.Step(); whole || err != error(want) {
		t.Fatalf("Step: %v, %v; want %v", whole, err, want)
	}
	if n := st.Calls() - was; n != 1 {
		t.Fatalf("Step: %d calls; want one", n)
	}
}

// expectSteps does so many, by none of which a run gets whole: they change nothing
// that is told.
func expectSteps(t testing.TB, p *poll.Poller, st *store.Store, n int) {
	t.Helper()
	was, runs := p.Roster(), p.Runs()
	for range n {
		expectStep(t, p, st, false)
		expect(t, p, was, runs)
	}
}

// expectRun does a run's steps, of a poller without one: so it tells, too, that
// there is none.
func expectRun(t testing.TB, p *poll.Poller, st *store.Store, want roster.Roster) {
	t.Helper()
	runs := p.Runs()
	expectSteps(t, p, st, size(want))
	expectStep(t, p, st, true)
	expect(t, p, want, runs+1)
}

// expectPoll polls, by so many calls of the store.
func expectPoll(t testing.TB, p *poll.Poller, st *store.Store, calls int, want roster.Roster) {
	t.Helper()
	was, runs := st.Calls(), p.Runs()
	if err := p.Poll(); err != nil {
		t.Fatalf("Poll: %v; want %v", err, want)
	}
	if n := st.Calls() - was; n != calls {
		t.Fatalf("Poll: %d calls; want %d", n, calls)
	}
	expect(t, p, want, runs+1)
}

func expectNoPoll(t testing.TB, p *poll.Poller, st *store.Store, calls int, want api.Code) {
	t.Helper()
	was, runs, r := st.Calls(), p.Runs(), p.Roster()
	if err := p.Poll(); err != error(want) {
		t.Fatalf("Poll: %v; want %v", err, want)
	}
	if n := st.Calls() - was; n != calls {
		t.Fatalf("Poll: %d calls; want %d", n, calls)
	}
	expect(t, p, r, runs)
}

func TestExample(t *testing.T) { // P18.1, the chapter's example
	st := empty(t)
	p := made(t, st)
	expectStep(t, p, st, true)
	expect(t, p, roster.Roster{}, 1)
}

func TestNewOfNoStore(t *testing.T) { // P18.1
	if p, err := poll.New(nil); p != nil || err != error(api.ErrArg) {
		t.Errorf("%v, %v; want %v", p, err, api.ErrArg)
	}
}

func TestANewPoller(t *testing.T) { // P18.1
	st := laid(t, []uint64{3, 20}, []uint64{5})
	was := st.Calls()
	p := made(t, st)
	expect(t, p, roster.Roster{}, 0)
	if n := st.Calls() - was; n != 0 {
		t.Errorf("%d calls; want none", n)
	}
	// It is made of a store of which no call goes well, too.
	st.Fail(0)
	p = made(t, st)
	expect(t, p, roster.Roster{}, 0)
	expectNoStep(t, p, st, api.ErrFail)
	expect(t, p, roster.Roster{}, 0)
}

func TestSteps(t *testing.T) { // P18.1
	for _, want := range rosters() {
		st := empty(t)
		lay(t, st, want)
		p := made(t, st)
		// Behind a run there is none: the next step begins another one.
		for range 3 {
			expectRun(t, p, st, want)
		}
	}
}

func TestStepsOfStoresThatChange(t *testing.T) { // P18.1
	// The roster is the last one that was whole, however many blocks there were.
	st := empty(t)
	p := made(t, st)
	expectRun(t, p, st, roster.Roster{})
	lay(t, st, rosterOf([]uint64{3, 7, 20}, nil))
	expectRun(t, p, st, rosterOf([]uint64{3, 7, 20}, nil))
	putMarker(t, st, since(7))
	expectRun(t, p, st, rosterOf([]uint64{3, 20}, []uint64{7}))
	putMarker(t, st, since(3))
	putMarker(t, st, since(20))
	expectRun(t, p, st, rosterOf(nil, []uint64{3, 7, 20}))
	drop(t, st, name(7, "m"))
	expectRun(t, p, st, rosterOf(nil, []uint64{3, 20}))
	drop(t, st, name(20, "x"))
	putMeta(t, st, later(20))
	expectRun(t, p, st, roster.Roster{Live: []api.Meta{later(20)}, Marked: []api.Marker{since(3)}})
	drop(t, st, name(3, "m"))
	drop(t, st, name(20, "m"))
	expectRun(t, p, st, roster.Roster{})
}

func TestWhatEachStepGets(t *testing.T) { // P18.1
	live, marked := []uint64{3, 7, 20}, []uint64{1, 5, 9}
	all := objects(live, marked)
	for i, object := range all {
		// It gets just that one: those behind it aren't asked for.
		st := laid(t, live, marked)
		p := made(t, st)
		expectSteps(t, p, st, 1+i)
		for _, other := range all[i+1:] {
			drop(t, st, other)
		}
		expectStep(t, p, st, i == len(all)-1)
		if i < len(all)-1 {
			expectNoStep(t, p, st, api.ErrNone)
		}
		// And it does get it.
		st = laid(t, live, marked)
		p = made(t, st)
		expectSteps(t, p, st, 1+i)
		drop(t, st, object)
		expectNoStep(t, p, st, api.ErrNone)
		expect(t, p, roster.Roster{}, 0)
		// Those ahead of it aren't asked for again, nor are all listed again.
		st = laid(t, live, marked)
		p = made(t, st)
		expectSteps(t, p, st, 1+i)
		for _, other := range all[:i] {
			drop(t, st, other)
		}
		put(t, st, name(2, "m"), nil)
		expectSteps(t, p, st, len(all)-1-i)
		expectStep(t, p, st, true)
		expect(t, p, rosterOf(live, marked), 1)
	}
}

func TestWhatIsListedStays(t *testing.T) { // P18.1
	// Behind the listing it is no matter what comes, or is marked: till the next run.
	live, marked := []uint64{3, 7, 20}, []uint64{1, 5}
	for at := 1; at <= 5; at++ {
		st := laid(t, live, marked)
		p := made(t, st)
		expectSteps(t, p, st, at)
		lay(t, st, rosterOf([]uint64{2, 4, 99}, []uint64{6, 98}))
		for _, id := range live {
			putMarker(t, st, since(id))
		}
		for _, id := range marked {
			drop(t, st, name(id, "m"))
		}
		expectSteps(t, p, st, 5-at)
		expectStep(t, p, st, true)
		expect(t, p, rosterOf(live, marked), 1)
		expectRun(t, p, st, rosterOf([]uint64{2, 4, 99}, []uint64{3, 6, 7, 20, 98}))
	}
}

func TestWhatIsGotIsThatOfItsStep(t *testing.T) { // P18.1
	live, marked := []uint64{3, 7, 20}, []uint64{1, 5, 9}
	for at := 1; at <= 6; at++ {
		st := laid(t, live, marked)
		p := made(t, st)
		expectSteps(t, p, st, at)
		want := rosterOf(live, marked)
		for i, id := range live {
			putMeta(t, st, later(id))
			if i >= at-1 {
				want.Live[i] = later(id)
			}
		}
		for i, id := range marked {
			m := api.Marker{Id: id, At: 77}
			putMarker(t, st, m)
			if i+3 >= at-1 {
				want.Marked[i] = m
			}
		}
		expectSteps(t, p, st, 6-at)
		expectStep(t, p, st, true)
		expect(t, p, want, 1)
	}
}

func TestWhatDoesntCount(t *testing.T) { // P18.1
	st := laid(t, []uint64{3, 20}, []uint64{5})
	// Neither other objects, nor the metas of marked ones, nor markers of blocks that
	// aren't there, are read.
	put(t, st, name(5, "m"), nil)
	for _, other := range []string{
		name(3, "i"), name(3, "f"), name(3, "p000"), name(5, "p199"), name(4, "x"), name(8, "x"), name(8, "i"),
		"b/7/m", "b/0000000000000007/mm", "c/0000000000000007/m", "m", "x", "b/",
	} {
		put(t, st, other, []byte{1, 2, 3, 4, 5})
	}
	p := made(t, st)
	expectRun(t, p, st, rosterOf([]uint64{3, 20}, []uint64{5}))
}

// fault is something that is wrong with an object, and what is told of it.
type fault struct {
	name string
	make func(t testing.TB, st *store.Store, name string)
	want api.Code
}

func as(b []byte) func(t testing.TB, st *store.Store, name string) {
	return func(t testing.TB, st *store.Store, name string) {
		t.Helper()
		put(t, st, name, b)
	}
}

func altered(t testing.TB, st *store.Store, name string) {
	t.Helper()
	if !st.Alter(name, 2, 1) {
		t.Fatal(name)
	}
}

// faults are those of any object.
func faults() []fault {
	return []fault{
		{"gone", drop, api.ErrNone},
		{"altered", altered, api.ErrSum},
		{"of no bytes", as(nil), api.ErrForm},
		{"too short for a sum", as([]byte{1, 2, 3}), api.ErrForm},
		{"sealed, of no bytes", as(sealed(nil)), api.ErrForm},
		{"of another form", as(sealed([]byte{255, 255, 255, 255, 9})), api.ErrForm},
		{"not sealed", as([]byte{255, 255, 255, 255, 9}), api.ErrSum},
	}
}

// metaFaults are those of the meta of block 7, or of others.
func metaFaults() []fault {
	l := append(faults(),
		fault{"a marker", as(sealed(rawMarker(since(7)))), api.ErrForm},
		fault{"one byte less", as(sealed(rawMeta(plain(7))[:30])), api.ErrForm},
		fault{"one byte more", as(sealed(append(rawMeta(plain(7)), 0))), api.ErrForm},
		fault{"another one's", as(sealed(rawMeta(plain(8)))), api.ErrForm},
		fault{"that of one behind 32 bits", as(sealed(rawMeta(plain(1<<32 + 7)))), api.ErrForm},
		fault{"another one's, and altered", func(t testing.TB, st *store.Store, name string) {
			put(t, st, name, sealed(rawMeta(plain(8))))
			altered(t, st, name)
		}, api.ErrSum},
	)
	for _, m := range []api.Meta{
		{},
		{Id: 7},
		{Id: 7, Level: maxLevel + 1, Pages: 1, Traces: 1},
		{Id: 7, Start: 3, End: 2, Pages: 1, Traces: 1},
		{Id: 7, End: maxTime + 1, Pages: 1, Traces: 1},
		{Id: 7, Pages: 2, Traces: 1},
	} {
		l = append(l, fault{fmt.Sprint(m), as(sealed(rawMeta(m))), api.ErrForm})
	}
	return l
}

// markerFaults are those of the marker of block 7, or of others.
func markerFaults() []fault {
	l := append(faults(),
		fault{"a meta", as(sealed(rawMeta(plain(7)))), api.ErrForm},
		fault{"one byte less", as(sealed(rawMarker(since(7))[:23])), api.ErrForm},
		fault{"one byte more", as(sealed(append(rawMarker(since(7)), 0))), api.ErrForm},
		fault{"another one's", as(sealed(rawMarker(since(8)))), api.ErrForm},
		fault{"by it, but another one's", as(sealed(rawMarker(api.Marker{Id: 6, At: 3, By: 7}))), api.ErrForm},
		fault{"that of one behind 32 bits", as(sealed(rawMarker(since(1<<32 + 7)))), api.ErrForm},
		fault{"another one's, and altered", func(t testing.TB, st *store.Store, name string) {
			put(t, st, name, sealed(rawMarker(since(8))))
			altered(t, st, name)
		}, api.ErrSum},
	)
	for _, m := range []api.Marker{{}, {Id: 0, At: 3, By: 6}, {Id: 7, At: -1}, {Id: 7, At: maxTime + 1}, {Id: 7, At: 5, By: 7}} {
		l = append(l, fault{fmt.Sprint(m), as(sealed(rawMarker(m))), api.ErrForm})
	}
	return l
}

// expectFault holds what an object at fault does to a run, and to those behind it.
func expectFault(t *testing.T, x fault, live, marked []uint64, object string) {
	t.Helper()
	before, want := rosterOf([]uint64{7, 40}, []uint64{41}), rosterOf(live, marked)
	st := empty(t)
	lay(t, st, before)
	p := made(t, st)
	expectRun(t, p, st, before)
	relay(t, st, want)
	// The run that finds it is over, and the roster stays.
	at := slices.Index(objects(live, marked), object)
	expectSteps(t, p, st, 1+at)
	x.make(t, st, object)
	expectNoStep(t, p, st, x.want)
	expect(t, p, before, 1)
	// The next step begins another run, as often as one likes.
	again := 2
	if x.want == api.ErrNone {
		again = 0 // What is gone is listed no more.
	}
	for range again {
		expectSteps(t, p, st, 1+at)
		expectNoStep(t, p, st, x.want)
		expectNoPoll(t, p, st, 2+at, x.want)
		expect(t, p, before, 1)
	}
	// Once it is mended a run gets whole.
	lay(t, st, want)
	expectRun(t, p, st, want)
}

func TestMetasThatAreWrong(t *testing.T) { // P18.1, P18.3
	for _, x := range metaFaults() {
		t.Run(x.name, func(t *testing.T) {
			for _, live := range [][]uint64{{7}, {3, 7}, {7, 20}, {3, 7, 20}} {
				expectFault(t, x, live, []uint64{1, 9}, name(7, "m"))
				expectFault(t, x, live, nil, name(7, "m"))
			}
		})
	}
}

func TestMarkersThatAreWrong(t *testing.T) { // P18.1, P18.3
	for _, x := range markerFaults() {
		t.Run(x.name, func(t *testing.T) {
			for _, marked := range [][]uint64{{7}, {3, 7}, {7, 20}, {3, 7, 20}} {
				expectFault(t, x, []uint64{1, 9}, marked, name(7, "x"))
				expectFault(t, x, nil, marked, name(7, "x"))
			}
		})
	}
}

func TestTheIdThatMayNotBe(t *testing.T) { // P18.1
	st := laid(t, []uint64{0, 3}, nil)
	p := made(t, st)
	expectSteps(t, p, st, 1)
	expectNoStep(t, p, st, api.ErrForm)
	st = laid(t, []uint64{3}, []uint64{0})
	p = made(t, st)
	expectSteps(t, p, st, 2)
	expectNoStep(t, p, st, api.ErrForm)
}

func TestEachByteAltered(t *testing.T) { // P18.1, P18.3
	live, marked := []uint64{3, 20}, []uint64{5, 9}
	st := laid(t, live, marked)
	p := made(t, st)
	expectRun(t, p, st, rosterOf(live, marked))
	for i, object := range objects(live, marked) {
		for at := 0; st.Alter(object, at, 128); at++ {
			expectNoPoll(t, p, st, 2+i, api.ErrSum)
			st.Alter(object, at, 128)
		}
	}
	expectRun(t, p, st, rosterOf(live, marked))
}

func TestCallsThatFail(t *testing.T) { // P18.1, P18.3
	want := rosterOf([]uint64{3, 7, 20}, []uint64{1, 5})
	for _, before := range []roster.Roster{{}, rosterOf([]uint64{3}, []uint64{5}), rosterOf([]uint64{1, 3, 5, 8}, []uint64{9, 20})} {
		st := empty(t)
		lay(t, st, before)
		p := made(t, st)
		expectRun(t, p, st, before)
		relay(t, st, want)
		for n := range 6 {
			st.Fail(n)
			expectSteps(t, p, st, n)
			expectNoStep(t, p, st, api.ErrFail)
			// The run was over by that: this one begins anew.
			st.Fail(n)
			expectNoPoll(t, p, st, n+1, api.ErrFail)
			expect(t, p, before, 1)
		}
		st.Fail(6)
		expectPoll(t, p, st, 6, want)
		expectNoStep(t, p, st, api.ErrFail)
		expect(t, p, want, 2)
	}
}

func TestAsManyAsMayBe(t *testing.T) { // P18.1
	for _, n := range []int{0, 1, 400, 999, 1000} {
		live, marked := upTo(7, n), upTo(5000, maxBlocks-n)
		st := laid(t, live, marked)
		p := made(t, st)
		expectPoll(t, p, st, 1+maxBlocks, rosterOf(live, marked))
		// With one more, live or marked, the last step tells so, no earlier one.
		putMeta(t, st, plain(1))
		expectSteps(t, p, st, 1+maxBlocks)
		expectNoStep(t, p, st, api.ErrLarge)
		expect(t, p, rosterOf(live, marked), 1)
		putMarker(t, st, since(1))
		expectNoPoll(t, p, st, 2+maxBlocks, api.ErrLarge)
		// The run was over by that.
		drop(t, st, name(1, "m"))
		expectPoll(t, p, st, 1+maxBlocks, rosterOf(live, marked))
	}
}

func TestTooMany(t *testing.T) { // P18.1, R1
	for _, x := range []struct{ live, marked int }{
		{1001, 0}, {0, 1001}, {1000, 1}, {1, 1000}, {501, 500}, {1000, 1000}, {3000, 0}, {0, 3000},
	} {
		live, marked := upTo(0, x.live), upTo(70000, x.marked)
		st := laid(t, live, marked)
		p := made(t, st)
		n := len(live) + len(marked)
		expectNoPoll(t, p, st, 1+n, api.ErrLarge)
		// An error of any of them comes first, that of the last one, too.
		st.Fail(n)
		expectNoPoll(t, p, st, 1+n, api.ErrFail)
		all := objects(live, marked)
		altered(t, st, all[n-1])
		expectNoPoll(t, p, st, 1+n, api.ErrSum)
		put(t, st, all[0], nil)
		expectNoPoll(t, p, st, 2, api.ErrForm)
		st.Fail(0)
		expectNoPoll(t, p, st, 1, api.ErrFail)
	}
}

func TestTooManyAreThoseThatWereGot(t *testing.T) { // P18.1
	// What comes behind the listing doesn't count, nor what goes.
	live := upTo(7, maxBlocks)
	st := laid(t, live, nil)
	p := made(t, st)
	expectSteps(t, p, st, 500)
	lay(t, st, rosterOf([]uint64{1, 2, 5000}, []uint64{3}))
	expectSteps(t, p, st, 500)
	expectStep(t, p, st, true)
	expect(t, p, rosterOf(live, nil), 1)
	for _, id := range []uint64{1, 2, 3} {
		drop(t, st, name(id, "m"))
	}
	expectSteps(t, p, st, 1+maxBlocks)
	drop(t, st, name(8, "m"))
	expectNoStep(t, p, st, api.ErrLarge)
	expect(t, p, rosterOf(live, nil), 1)
}

func TestPoll(t *testing.T) { // P18.1
	for _, want := range rosters() {
		st := empty(t)
		lay(t, st, want)
		p := made(t, st)
		for range 2 {
			expectPoll(t, p, st, 1+size(want), want)
		}
		// Behind it no run is under way.
		expectRun(t, p, st, want)
	}
}

func TestPollGoesOn(t *testing.T) { // P18.1
	live, marked := []uint64{3, 7, 20}, []uint64{1, 5}
	for at := 1; at <= 5; at++ {
		st := laid(t, live, marked)
		p := made(t, st)
		expectSteps(t, p, st, at)
		// So it tells what was listed then, and no more than one run gets whole.
		putMeta(t, st, plain(99))
		expectPoll(t, p, st, 6-at, rosterOf(live, marked))
		expectPoll(t, p, st, 7, rosterOf([]uint64{3, 7, 20, 99}, marked))
	}
}

func TestPollTellsTheFirstError(t *testing.T) { // P18.1, P18.3
	live, marked := []uint64{3, 7, 20}, []uint64{1, 5}
	all := objects(live, marked)
	for first := range all {
		for turn := range 2 {
			want := [2]api.Code{api.ErrSum, api.ErrForm}[turn]
			for at := range first + 2 {
				st := laid(t, live, marked)
				p := made(t, st)
				expectPoll(t, p, st, 6, rosterOf(live, marked))
				expectSteps(t, p, st, at)
				// All of these are wrong, by turns in one way or another.
				for i, object := range all[first:] {
					if i%2 == turn {
						altered(t, st, object)
					} else {
						put(t, st, object, []byte{1})
					}
				}
				// A run under way goes on, up to that; the next one begins anew.
				expectNoPoll(t, p, st, first+2-at, want)
				expectNoPoll(t, p, st, first+2, want)
				st.Fail(first)
				expectNoPoll(t, p, st, first+1, api.ErrFail)
				lay(t, st, rosterOf(live, marked))
				expectPoll(t, p, st, 6, rosterOf(live, marked))
			}
		}
	}
}

func TestABlockComesAndGoes(t *testing.T) { // P18.1
	l := []api.Trace{{Id: 3, Spans: []api.Span{{Trace: 3, Id: 1, Start: 2, End: 5}}}}
	st := empty(t)
	p := made(t, st)
	objects, m, err := block.Make(9, 1, l, api.Sizes{Page: 64, Shards: 1, Bits: 64, Hashes: 2})
	if err != nil {
		t.Fatal(err)
	}
	for _, o := range objects {
		expectRun(t, p, st, roster.Roster{})
		put(t, st, o.Name, o.B)
	}
	expectRun(t, p, st, roster.Roster{Live: []api.Meta{m}})
	putMarker(t, st, since(9))
	expectRun(t, p, st, rosterOf(nil, []uint64{9}))
	drop(t, st, name(9, "m"))
	expectRun(t, p, st, roster.Roster{})
}

func TestItReadsAsItIsWritten(t *testing.T) { // P18.1
	st := empty(t)
	m := api.Meta{Id: 255, Level: 2, Start: 7, End: 9, Pages: 2, Traces: 3}
	k := api.Marker{Id: 256, At: 3, By: 255}
	b, _ := meta.Put(m)
	put(t, st, meta.Name(255, "m", 0), b)
	put(t, st, meta.Name(256, "m", 0), b)
	b, _ = meta.Mark(k)
	put(t, st, meta.Name(256, "x", 0), b)
	expectRun(t, made(t, st), st, roster.Roster{Live: []api.Meta{m}, Marked: []api.Marker{k}})
}

func TestPollersAreApart(t *testing.T) { // P18.1, P18.2
	st := laid(t, []uint64{3, 20}, []uint64{5})
	p, q := made(t, st), made(t, st)
	expectSteps(t, p, st, 2)
	expectSteps(t, q, st, 1)
	putMeta(t, st, plain(99))
	expectSteps(t, p, st, 1)
	expectStep(t, p, st, true)
	expect(t, q, roster.Roster{}, 0)
	st.Fail(0)
	expectNoStep(t, q, st, api.ErrFail)
	expect(t, p, rosterOf([]uint64{3, 20}, []uint64{5}), 1)
	expectRun(t, q, st, rosterOf([]uint64{3, 20, 99}, []uint64{5}))
	expect(t, p, rosterOf([]uint64{3, 20}, []uint64{5}), 1)
	// Nor do those of two stores touch each other.
	other := laid(t, []uint64{8}, nil)
	o := made(t, other)
	expectSteps(t, o, other, 1)
	expectRun(t, p, st, rosterOf([]uint64{3, 20, 99}, []uint64{5}))
	expectStep(t, o, other, true)
	expect(t, o, rosterOf([]uint64{8}, nil), 1)
}

// scribble alters all of a roster's memory, up to its capacities.
func scribble(r roster.Roster) {
	live, marked := r.Live[:cap(r.Live)], r.Marked[:cap(r.Marked)]
	for i := range live {
		live[i] = plain(5000)
	}
	for i := range marked {
		marked[i] = since(6000)
	}
}

func TestWhatIsToldIsNewMemory(t *testing.T) { // P18.2
	for _, x := range []struct{ live, marked []uint64 }{
		{[]uint64{3, 20}, []uint64{5}},
		{[]uint64{1}, []uint64{2, 3, 4}},
		{[]uint64{1, 2, 3, 4, 5}, nil},
		{upTo(0, 400), upTo(500, 500)},
	} {
		st := laid(t, x.live, x.marked)
		p := made(t, st)
		want := rosterOf(x.live, x.marked)
		expectRun(t, p, st, want)
		one, other := p.Roster(), p.Roster()
		scribble(one)
		if !same(other, want) {
			t.Errorf("%v: two calls tell one memory", other)
		}
		expect(t, p, want, 1)
		// What was told stays, whatever is polled later, and that isn't told in it.
		expectSteps(t, p, st, 1)
		scribble(p.Roster())
		lay(t, st, roster.Roster{Live: []api.Meta{later(x.live[0])}})
		expectSteps(t, p, st, size(want)-1)
		expectStep(t, p, st, true)
		if !same(other, want) {
			t.Errorf("%v: it changed", other)
		}
		want.Live[0] = later(x.live[0])
		expect(t, p, want, 2)
		scribble(other)
		expect(t, p, want, 2)
	}
}

func TestTheRosterIsTheStoresNoMore(t *testing.T) { // P18.1, P18.2
	want := rosterOf([]uint64{3, 20}, []uint64{5})
	st := empty(t)
	lay(t, st, want)
	p := made(t, st)
	expectRun(t, p, st, want)
	for at := 0; at < 40; at++ {
		for _, object := range objects([]uint64{3, 20}, []uint64{5}) {
			st.Alter(object, at, 255)
		}
	}
	for _, id := range []uint64{3, 5, 20} {
		drop(t, st, name(id, "m"))
	}
	st.Fail(0)
	was := st.Calls()
	expect(t, p, want, 1)
	if n := st.Calls() - was; n != 0 {
		t.Errorf("%d calls; want none", n)
	}
}

func TestTheStoreIsntChanged(t *testing.T) { // R2
	st := laid(t, []uint64{3, 20, 21}, []uint64{5, 9})
	put(t, st, name(8, "x"), nil)
	put(t, st, name(3, "p000"), []byte{1, 2})
	p := made(t, st)
	for range 2 {
		was := had(t, st)
		for n := range 8 {
			st.Fail(n - 1)
			p.Poll()
			p.Step()
		}
		is := had(t, st)
		if len(is) != len(was) {
			t.Error("other names")
		}
		for name, b := range was {
			if is[name] != b {
				t.Errorf("%s changed", name)
			}
		}
		st.Alter(name(20, "m"), 1, 1)
	}
}

// anyRoster may be, with some metas and markers.
func anyRoster(r *rand.Rand, most int) roster.Roster {
	var l roster.Roster
	id := uint64(0)
	for range r.Intn(most + 1) {
		id += 1 + r.Uint64()>>(12+r.Intn(52))
		start, pages := r.Int63n(maxTime), 1+r.Intn(maxPages)
		if r.Intn(2) == 0 {
			l.Marked = append(l.Marked, api.Marker{Id: id, At: r.Int63n(maxTime + 1), By: id + 1 + r.Uint64()>>1})
			continue
		}
		l.Live = append(l.Live, api.Meta{
			Id: id, Level: r.Intn(maxLevel + 1), Start: start, End: start + r.Int63n(maxTime-start+1),
			Pages: pages, Traces: pages + r.Intn(pages*(maxTraces-1)+1),
		})
	}
	return l
}

// expectAsListed polls, and holds that against what layer 17 lists: one and the
// same call of both fails, or none does, below 0.
func expectAsListed(t testing.TB, p *poll.Poller, st *store.Store, fail int) {
	t.Helper()
	r, runs := p.Roster(), p.Runs()
	was := st.Calls()
	st.Fail(fail)
	want, wrong := roster.List(st)
	calls := st.Calls() - was
	st.Fail(fail)
	err := p.Poll()
	if err != wrong {
		t.Fatalf("Poll: %v; List: %v", err, wrong)
	}
	if n := st.Calls() - was - calls; n != calls {
		t.Fatalf("Poll: %d calls; List: %d", n, calls)
	}
	st.Fail(-1)
	if err != nil {
		expect(t, p, r, runs)
		return
	}
	expect(t, p, want, runs+1)
}

func TestWhatIsPolledIsWhatIsListed(t *testing.T) { // P18.3
	r := rand.New(rand.NewSource(181))
	for range 200 {
		l := anyRoster(r, 40)
		st := empty(t)
		lay(t, st, l)
		p := made(t, st)
		expectAsListed(t, p, st, -1)
		expect(t, p, l, 1)
		expectAsListed(t, p, st, r.Intn(2+size(l)))
		if all := objects(idsOf(l)); len(all) > 0 {
			st.Alter(all[r.Intn(len(all))], r.Intn(28), byte(1+r.Intn(255)))
			expectAsListed(t, p, st, -1)
			expectAsListed(t, p, st, r.Intn(2+size(l)))
		}
	}
}

func idsOf(r roster.Roster) (live, marked []uint64) {
	for _, m := range r.Live {
		live = append(live, m.Id)
	}
	for _, m := range r.Marked {
		marked = append(marked, m.Id)
	}
	return live, marked
}

// model is the chapter's rule of a poller, beside a store's objects.
type model struct {
	objects map[string][]byte
	well    int // below 0: all calls go well
	under   bool
	rest    []string // what is still to be got
	got     roster.Roster
	whole   roster.Roster
	runs    int
}

func (m *model) goesWell() bool {
	m.well--
	return m.well != -1
}

// list are the names of what is to be got: the metas, then the markers.
func (m *model) list() {
	var live, marked []uint64
	for object := range m.objects {
		id, what, _, _ := meta.Parse(object)
		if what != "m" {
			continue
		}
		if _, is := m.objects[name(id, "x")]; is {
			marked = append(marked, id)
		} else {
			live = append(live, id)
		}
	}
	slices.Sort(live)
	slices.Sort(marked)
	m.under, m.rest, m.got = true, objects(live, marked), roster.Roster{}
}

// get reads the next one.
func (m *model) get() error {
	object := m.rest[0]
	m.rest = m.rest[1:]
	id, what, _, _ := meta.Parse(object)
	b, is := m.objects[object]
	if !is {
		return api.ErrNone
	}
	if what == "m" {
		one, err := meta.Get(b)
		if err == nil && one.Id != id {
			err = api.ErrForm
		}
		m.got.Live = append(m.got.Live, one)
		return err
	}
	one, err := meta.Marked(b)
	if err == nil && one.Id != id {
		err = api.ErrForm
	}
	m.got.Marked = append(m.got.Marked, one)
	return err
}

func (m *model) step() (bool, error) {
	var err error
	if !m.goesWell() {
		err = api.ErrFail
	} else if m.under {
		err = m.get()
	} else {
		m.list()
	}
	if err == nil && len(m.rest) > 0 {
		return false, nil
	}
	m.under = false
	if err == nil && size(m.got) > maxBlocks {
		err = api.ErrLarge
	}
	if err != nil {
		return false, err
	}
	m.whole = m.got
	m.runs++
	return true, nil
}

func (m *model) poll() error {
	for {
		if whole, err := m.step(); whole || err != nil {
			return err
		}
	}
}

// both are a store and a poller, with their model beside them.
type both struct {
	st *store.Store
	p  *poll.Poller
	m  model
}

func newBoth(t testing.TB) *both {
	st := empty(t)
	return &both{st: st, p: made(t, st), m: model{objects: map[string][]byte{}, well: -1}}
}

func (x *both) put(name string, b []byte) {
	if x.m.goesWell() {
		x.m.objects[name] = bytes.Clone(b)
	}
	x.st.Put(name, b)
}

func (x *both) drop(name string) {
	if x.m.goesWell() {
		delete(x.m.objects, name)
	}
	x.st.Delete(name)
}

func (x *both) alter(name string, at int, with byte) {
	if b := x.m.objects[name]; at < len(b) {
		b[at] ^= with
	}
	x.st.Alter(name, at, with)
}

func (x *both) fail(n int) {
	x.m.well = n
	x.st.Fail(n)
}

// do does one of what may be done, as these three tell.
func (x *both) do(t testing.TB, kind, which, how int) {
	t.Helper()
	id := uint64(which%6 + 1)
	if which == 255 {
		id = 0
	}
	switch kind % 16 {
	case 0, 1:
		x.put(name(id, "m"), sealed(rawMeta(plain(id))))
	case 2:
		x.put(name(id, "x"), sealed(rawMarker(since(id))))
	case 3:
		x.put(name(id, []string{"m", "x"}[how%2]), sealed(rawMeta(plain(id+uint64(how%3)))))
	case 4:
		x.put(name(id, []string{"i", "p000", "mm", "x"}[how%4]), sealed(rawMarker(since(id+uint64(how%3)))))
	case 5:
		x.drop(name(id, []string{"m", "x"}[how%2]))
	case 6:
		if how%4 == 0 {
			x.alter(name(id, []string{"m", "x"}[which%2]), which%36, byte(how))
		}
	case 7:
		x.fail(how%12 - 1)
	case 8:
		want := x.m.poll()
		if err := x.p.Poll(); err != want {
			t.Fatalf("Poll: %v; want %v", err, want)
		}
	default:
		want, wrong := x.m.step()
		if whole, err := x.p.Step(); whole != want || err != wrong {
			t.Fatalf("Step: %v, %v; want %v, %v", whole, err, want, wrong)
		}
	}
	expect(t, x.p, x.m.whole, x.m.runs)
}

func TestRowsOfAnyCalls(t *testing.T) { // P18.1, P18.3, P1
	r := rand.New(rand.NewSource(182))
	wholes := 0
	for range 3000 {
		x := newBoth(t)
		for range r.Intn(120) {
			x.do(t, r.Intn(256), r.Intn(256), r.Intn(256))
		}
		wholes += x.p.Runs()
	}
	// Else the rows would hold little.
	if wholes < 5000 {
		t.Errorf("%d runs got whole", wholes)
	}
}

// FuzzCalls does any calls, three bytes each, beside the model.
func FuzzCalls(f *testing.F) { // P18.1, P18.3, P1
	f.Add([]byte{})
	f.Add([]byte{9, 0, 0})
	f.Add([]byte{0, 3, 0, 0, 4, 0, 2, 4, 0, 9, 0, 0, 9, 0, 0, 9, 0, 0})
	f.Add([]byte{0, 3, 0, 8, 0, 0, 0, 4, 0, 7, 0, 2, 8, 0, 0, 8, 0, 0})
	f.Add([]byte{0, 1, 0, 0, 2, 0, 9, 0, 0, 5, 1, 0, 8, 0, 0, 8, 0, 0})
	f.Add([]byte{0, 255, 0, 8, 0, 0, 6, 4, 4, 3, 1, 1, 8, 0, 0})
	f.Fuzz(func(t *testing.T, l []byte) {
		x := newBoth(t)
		for op := range slices.Chunk(l, 3) {
			if len(op) == 3 {
				x.do(t, int(op[0]), int(op[1]), int(op[2]))
			}
		}
	})
}

// FuzzPoll polls whatever objects there are, and whatever is sealed in them.
func FuzzPoll(f *testing.F) { // P18.3, P1
	m, k := rawMeta(plain(7)), rawMarker(since(7))
	f.Add("b/0000000000000007/m", m, "b/0000000000000007/x", k, true, -1)
	f.Add("b/0000000000000007/m", m, "b/0000000000000008/x", k, true, 3)
	f.Add("b/0000000000000007/m", k, "b/0000000000000008/m", m, true, 0)
	f.Add("b/0000000000000007/m", sealed(m), "c/x", k, false, 9)
	f.Fuzz(func(t *testing.T, a string, b []byte, c string, d []byte, seal bool, fail int) {
		st := laid(t, []uint64{1, 20}, []uint64{6, 9})
		if seal {
			b, d = sealed(b), sealed(d)
		}
		p := made(t, st)
		expectAsListed(t, p, st, fail)
		st.Put(a, b)
		st.Put(c, d)
		expectAsListed(t, p, st, -1)
		expectAsListed(t, p, st, fail)
	})
}
