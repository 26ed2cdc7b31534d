package wal_test

import (
	"bytes"
	"encoding/binary"
	"hash/crc32"
	"math"
	"math/rand"
	"slices"
	"strings"
	"testing"

	"tankard/api"
	"tankard/tape"
	"tankard/wal"
)

const (
	maxRoom   = 1 << 20
	maxRecord = 16384
	frame     = 6 // 2 bytes of the size, 4 of the sum
)

// laid is a record's bytes, as the chapter says, with the library's own sum.
// It lays out what is no record, too.
func laid(rec string) string {
	b := binary.BigEndian.AppendUint16(nil, uint16(len(rec)))
	b = append(b, rec...)
	return string(binary.BigEndian.AppendUint32(b, crc32.ChecksumIEEE(b)))
}

func laidAll(l ...string) string {
	all := ""
	for _, rec := range l {
		all += laid(rec)
	}
	return all
}

// parsed is what bytes begin with, worked out straight from the chapter: it tries
// each size that a record may have.
func parsed(b string) []string {
	var l []string
	for at := 0; at < len(b); {
		next := at
		for size := 1; size <= maxRecord && at+size+frame <= len(b); size++ {
			if laid(b[at+2:at+2+size]) == b[at:at+size+frame] {
				l = append(l, b[at+2:at+2+size])
				next = at + size + frame
				break
			}
		}
		if next == at {
			break
		}
		at = next
	}
	return l
}

// filled is bytes that tell each of their places from those beside it.
func filled(n int) string {
	b := make([]byte, n)
	for i := range b {
		b[i] = byte(i*7 + i>>8 + 1)
	}
	return string(b)
}

func texts(l [][]byte) []string {
	out := make([]string, len(l))
	for i, b := range l {
		out[i] = string(b)
	}
	return out
}

// short keeps what a test tells readable.
func short(l []string) []string {
	out := slices.Clone(l)
	for i, s := range out {
		out[i] = s[:min(len(s), 40)]
	}
	return out
}

func expectRecords(t testing.TB, b string, want ...string) {
	t.Helper()
	l, n := wal.Records([]byte(b))
	if !slices.Equal(texts(l), want) || n != len(laidAll(want...)) {
		t.Errorf("Records(%d bytes): %q, %d; want %q, %d",
			len(b), short(texts(l)), n, short(want), len(laidAll(want...)))
	}
}

func made(t testing.TB, room int) *tape.Tape {
	t.Helper()
	x, err := tape.New(room)
	if err != nil || x == nil {
		t.Fatalf("New(%d): %v, %v", room, x, err)
	}
	return x
}

// with is a tape that has bytes, none of them synced.
func with(t testing.TB, b string) *tape.Tape {
	t.Helper()
	x := made(t, maxRoom)
	if err := x.Append([]byte(b)); err != nil {
		t.Fatal(err)
	}
	return x
}

func opened(t testing.TB, x *tape.Tape) *wal.Log {
	t.Helper()
	l, err := wal.Open(x)
	if err != nil || l == nil {
		t.Fatalf("Open: %v, %v", l, err)
	}
	return l
}

// openedWith is a log that has records, on a tape of its own.
func openedWith(t testing.TB, room int, records ...string) (*wal.Log, *tape.Tape) {
	t.Helper()
	x := made(t, room)
	l := opened(t, x)
	for _, rec := range records {
		expectAppend(t, l, rec, nil)
	}
	return l, x
}

func expectAppend(t testing.TB, l *wal.Log, rec string, want error) {
	t.Helper()
	if err := l.Append([]byte(rec)); err != want {
		t.Errorf("Append(%d bytes): %v; want %v itself", len(rec), err, want)
	}
}

func expectClear(t testing.TB, l *wal.Log, want error) {
	t.Helper()
	if err := l.Clear(); err != want {
		t.Errorf("Clear: %v; want %v itself", err, want)
	}
}

func expectAll(t testing.TB, l *wal.Log, want ...string) {
	t.Helper()
	if got := texts(l.All()); !slices.Equal(got, want) {
		t.Errorf("All: %q; want %q", short(got), short(want))
	}
}

func expectTape(t testing.TB, x *tape.Tape, want string) {
	t.Helper()
	if b, err := x.Read(); err != nil || string(b) != want {
		t.Errorf("the tape has %d bytes, %v; want %d", len(b), err, len(want))
	}
}

// expectHas holds that a log has just these records, and its tape their bytes.
func expectHas(t testing.TB, l *wal.Log, x *tape.Tape, want ...string) {
	t.Helper()
	expectAll(t, l, want...)
	expectTape(t, x, laidAll(want...))
}

// expectLasts holds that just these records stay behind a crash: it lets the tape
// go down, and opens it.
func expectLasts(t testing.TB, x *tape.Tape, want ...string) {
	t.Helper()
	x.Crash(0)
	expectHas(t, opened(t, x), x, want...)
}

func TestTheExample(t *testing.T) { // P8.2
	x := made(t, 1)
	expectHas(t, opened(t, x), x)
}

func TestRecordsOfNoneWhole(t *testing.T) { // P8.1
	if l, n := wal.Records(nil); len(l) != 0 || n != 0 {
		t.Errorf("Records(nil): %q, %d", l, n)
	}
	for _, b := range []string{"", "\x00", "\x01", "\x00\x00", "\x00\x01", "\x00\x01a", "\xff\xff",
		strings.Repeat("\x00", 5), strings.Repeat("\x00", 6), strings.Repeat("\x00", 1000),
		strings.Repeat("\xff", 1000), strings.Repeat("\xff", 70000)} {
		expectRecords(t, b)
	}
}

func TestRecordsOfKnownBytes(t *testing.T) { // P8.1
	// The sum is that of the size and the record, not of the record alone.
	abc := []byte("\x00\x03abc")
	x := binary.BigEndian.AppendUint32(abc, crc32.ChecksumIEEE(abc))
	expectRecords(t, string(x), "abc")
	alone := binary.BigEndian.AppendUint32(abc, crc32.ChecksumIEEE([]byte("abc")))
	expectRecords(t, string(alone))
	turned := binary.LittleEndian.AppendUint32(abc, crc32.ChecksumIEEE(abc))
	expectRecords(t, string(turned))
	low := []byte("\x03\x00abc")
	expectRecords(t, string(binary.BigEndian.AppendUint32(low, crc32.ChecksumIEEE(low))))
}

func TestRecordsOfAllSizes(t *testing.T) { // P8.1
	for _, size := range []int{1, 2, 3, 4, 5, 6, 7, 255, 256, 257, 1000, 4095, 4096, maxRecord - 1, maxRecord} {
		rec := filled(size)
		expectRecords(t, laid(rec), rec)
		expectRecords(t, laidAll("a", rec, "b"), "a", rec, "b")
		zeros := strings.Repeat("\x00", size)
		expectRecords(t, laidAll(zeros, zeros), zeros, zeros)
		all := strings.Repeat("\xff", size)
		expectRecords(t, laid(all), all)
	}
}

func TestWhatIsNoRecord(t *testing.T) { // P8.1
	// Though they are sealed well: of no bytes, and of more than a record has.
	for _, size := range []int{0, maxRecord + 1, maxRecord + 2, 2 * maxRecord, 1<<15 - 1, 1 << 15, 1<<16 - 1} {
		rec := filled(size)
		expectRecords(t, laid(rec))
		expectRecords(t, laidAll(rec, "a"))
		expectRecords(t, laidAll("a", rec, "b"), "a")
	}
}

func TestRecordsUpToOneThatIsCut(t *testing.T) { // P8.1
	l := []string{"abc", "d", filled(300), "ef", "\x00\x01"}
	all := laidAll(l...)
	for n := range len(all) + 1 {
		whole := 0
		for whole < len(l) && len(laidAll(l[:whole+1]...)) <= n {
			whole++
		}
		expectRecords(t, all[:n], l[:whole]...)
	}
	long := laidAll("a", filled(maxRecord))
	for _, n := range []int{1, 2, 3, 4, 5, 6, maxRecord, maxRecord + 5} {
		expectRecords(t, long[:len(long)-n], "a")
	}
}

func TestRecordsUpToOneThatIsAltered(t *testing.T) { // P8.1
	l := []string{"abc", "d", filled(20), "ef"}
	all := laidAll(l...)
	ends := make([]int, len(l))
	for i := range l {
		ends[i] = len(laidAll(l[:i+1]...))
	}
	for at := range len(all) {
		for _, x := range []byte{1, 2, 4, 8, 16, 32, 64, 128, 255} {
			b := []byte(all)
			b[at] ^= x
			// None behind it counts, though it is whole.
			whole := slices.IndexFunc(ends, func(end int) bool { return at < end })
			expectRecords(t, string(b), l[:whole]...)
		}
	}
}

func TestRecordsWithOthersBehind(t *testing.T) { // P8.1
	for _, rest := range []string{"", "\x00", "\x00\x00", "x", "\x00\x02a", "\x00\x02ab\x00\x00\x00\x00", laid("cd")[1:],
		"\x00" + laid("cd"), strings.Repeat("\x00", 100), laid("") + laid("cd")} {
		expectRecords(t, laidAll("ab", "c")+rest, "ab", "c")
		expectRecords(t, rest)
	}
}

func TestRecordsWithinRecords(t *testing.T) { // P8.1
	inner := laidAll("ab", "c")
	expectRecords(t, laidAll(inner, "d"), inner, "d")
	expectRecords(t, laid(inner)[:2+len(inner)])
}

func TestRecordsOfManyBytes(t *testing.T) { // P8.1
	l := make([]string, 60000)
	for i := range l {
		l[i] = filled(1 + i%20)[i%20:]
	}
	var b strings.Builder
	for _, rec := range l {
		b.WriteString(laid(rec))
	}
	got, n := wal.Records([]byte(b.String() + "\x00"))
	if !slices.Equal(texts(got), l) || n != b.Len() {
		t.Errorf("%d records, %d bytes; want %d, %d", len(got), n, len(l), b.Len())
	}
}

func TestRecordsOfAnyBytes(t *testing.T) { // P8.1
	r := rand.New(rand.NewSource(81))
	for range 2000 {
		b := ""
		for range r.Intn(6) {
			b += laid(filled(r.Intn(8)))
		}
		y := []byte(b)
		switch r.Intn(4) {
		case 0:
			for range r.Intn(3) {
				if len(y) > 0 {
					y[r.Intn(len(y))] ^= byte(1 << r.Intn(8))
				}
			}
		case 1:
			y = y[:r.Intn(len(y)+1)]
		case 2:
			y = append(y, filled(r.Intn(10))...)
		}
		expectRecords(t, string(y), parsed(string(y))...)
	}
}

func TestOpenRefusesNoTape(t *testing.T) { // P8.2
	if l, err := wal.Open(nil); l != nil || err != api.ErrArg {
		t.Errorf("Open(nil): %v, %v; want ErrArg itself", l, err)
	}
}

func TestOpenLetsTheTapeComeUp(t *testing.T) { // P8.2
	x := with(t, laidAll("ab", "c")+"\x00\x02")
	x.Crash(maxRoom)
	if _, err := x.Read(); err != api.ErrGone {
		t.Fatal(err)
	}
	l := opened(t, x)
	expectHas(t, l, x, "ab", "c")
	expectAppend(t, l, "d", nil)
	expectHas(t, l, x, "ab", "c", "d")
}

func TestOpenCutsTheTapeToItsRecords(t *testing.T) { // P8.2
	for _, l := range [][]string{nil, {"a"}, {"ab", "c"}, {filled(maxRecord), "x"}} {
		for _, rest := range []string{"", "\x00", "\x00\x02a", "xyz", laid(""), laid("de")[:7], strings.Repeat("\x00", 50),
			laid(filled(maxRecord + 1)), "\x00" + laid("de")} {
			x := with(t, laidAll(l...)+rest)
			log := opened(t, x)
			expectHas(t, log, x, l...)
			expectAppend(t, log, "new", nil)
			want := append(slices.Clone(l), "new")
			expectHas(t, log, x, want...)
			expectLasts(t, x, want...)
		}
	}
}

func TestOpenSyncsTheRecords(t *testing.T) { // P8.2
	// Where nothing is to be cut off, too: the tape's Cut is called in any case.
	for _, rest := range []string{"", "\x00\x02"} {
		x := with(t, laidAll("ab", "c")+rest)
		opened(t, x)
		x.Crash(0)
		x.Up()
		expectTape(t, x, laidAll("ab", "c"))
		expectLasts(t, x, "ab", "c")
	}
	x := with(t, laid("ab"))
	x.Sync()
	x.Append([]byte(laid("c")))
	opened(t, x)
	expectLasts(t, x, "ab", "c")
}

func TestOpenIsNoCallThatFails(t *testing.T) { // P8.2
	for n := range 3 {
		x := with(t, laid("ab")+"\x00")
		x.Fail(n)
		l := opened(t, x)
		expectAll(t, l, "ab")
		for range n {
			if err := x.Sync(); err != nil {
				t.Error(err)
			}
		}
		expectAppend(t, l, "c", api.ErrFail)
		expectAppend(t, l, "c", nil)
		expectHas(t, l, x, "ab", "c")
	}
}

func TestOpenTwice(t *testing.T) { // P8.2
	_, x := openedWith(t, 1000, "ab", "c")
	l := opened(t, x)
	expectHas(t, l, x, "ab", "c")
	expectAppend(t, l, "d", nil)
	expectHas(t, opened(t, x), x, "ab", "c", "d")
	expectHas(t, opened(t, x), x, "ab", "c", "d")
}

func TestAppendStandsBehind(t *testing.T) { // P8.2
	x := made(t, maxRoom)
	l := opened(t, x)
	var want []string
	for _, rec := range []string{"abc", "a", "\x00", "abc", filled(256), "\xff\xff", laid("x"), filled(maxRecord - 1),
		filled(maxRecord), strings.Repeat("\x00", 6), "z"} {
		expectAppend(t, l, rec, nil)
		want = append(want, rec)
		expectHas(t, l, x, want...)
		expectAll(t, l, want...)
	}
	// Each was synced when it was appended.
	x.Crash(0)
	expectAll(t, l, want...)
	expectHas(t, opened(t, x), x, want...)
}

func TestAppendSyncsEachOne(t *testing.T) { // P8.2
	l, x := openedWith(t, 1000)
	var want []string
	for _, rec := range []string{"ab", "c", "def"} {
		expectAppend(t, l, rec, nil)
		want = append(want, rec)
		x.Crash(0)
		x.Up()
		// The log goes on, as the tape has lost nothing of it.
		expectHas(t, l, x, want...)
	}
}

func TestAppendRefusesWhatIsNoRecord(t *testing.T) { // P8.2
	l, x := openedWith(t, maxRoom, "ab")
	if err := l.Append(nil); err != api.ErrArg {
		t.Errorf("Append(nil): %v; want ErrArg itself", err)
	}
	for _, size := range []int{0, maxRecord + 1, maxRecord + 2, 1<<16 - 1, 1 << 16, 1<<16 + 1, maxRoom, 2 * maxRoom} {
		expectAppend(t, l, filled(size), api.ErrArg)
		expectHas(t, l, x, "ab")
	}
	expectLasts(t, x, "ab")
}

func TestAppendRefusesThatAheadOfTheTape(t *testing.T) { // P8.2, R1
	l, x := openedWith(t, 10, "ab")
	x.Fail(0)
	expectAppend(t, l, "", api.ErrArg)
	expectAppend(t, l, filled(maxRecord+1), api.ErrArg)
	// Nor is the tape asked: what fails is the next record.
	expectAppend(t, l, "c", api.ErrFail)
	expectAppend(t, l, "c", api.ErrFull)
	x.Crash(0)
	expectAppend(t, l, "", api.ErrArg)
	expectAppend(t, l, filled(maxRecord+1), api.ErrArg)
	expectAppend(t, l, "c", api.ErrGone)
}

func TestAppendOfWhatThereIsNoRoomFor(t *testing.T) { // P8.2
	l, x := openedWith(t, 30, "abc")
	for _, size := range []int{16, 17, 100, maxRecord} {
		expectAppend(t, l, filled(size), api.ErrFull)
		expectHas(t, l, x, "abc")
	}
	expectAppend(t, l, filled(8), nil)
	expectAppend(t, l, "x", nil)
	expectHas(t, l, x, "abc", filled(8), "x")
	expectAppend(t, l, "y", api.ErrFull)
	expectLasts(t, x, "abc", filled(8), "x")
	full, y := openedWith(t, 30, filled(24))
	expectAppend(t, full, "x", api.ErrFull)
	expectHas(t, full, y, filled(24))
}

func TestAppendThatFails(t *testing.T) { // P8.2
	// At once, as it is appended; or behind that, as it is synced.
	for fail := range 2 {
		for _, before := range [][]string{nil, {"ab"}, {"ab", "c"}} {
			l, x := openedWith(t, 1000, before...)
			x.Fail(fail)
			expectAppend(t, l, "def", api.ErrFail)
			expectHas(t, l, x, before...)
			// What the tape has stays synced, and the next one goes well.
			expectAppend(t, l, "gh", nil)
			want := append(slices.Clone(before), "gh")
			expectHas(t, l, x, want...)
			expectLasts(t, x, want...)
		}
	}
}

func TestAppendThatFailsIsNotThereBehindACrash(t *testing.T) { // P8.2
	for fail := range 2 {
		l, x := openedWith(t, 1000, "ab")
		x.Fail(fail)
		expectAppend(t, l, "def", api.ErrFail)
		x.Crash(maxRoom)
		expectAll(t, l, "ab")
		expectHas(t, opened(t, x), x, "ab")
	}
}

func TestAppendCountsTwoCalls(t *testing.T) { // P8.2
	for n := range 7 {
		l, x := openedWith(t, 1000)
		var want []string
		x.Fail(n)
		for i := range 5 {
			rec := filled(i + 1)
			if i == n/2 {
				expectAppend(t, l, rec, api.ErrFail)
				continue
			}
			expectAppend(t, l, rec, nil)
			want = append(want, rec)
		}
		expectHas(t, l, x, want...)
		expectLasts(t, x, want...)
	}
}

func TestAppendOfWhatFailsLeavesTheRoomFree(t *testing.T) { // P8.2
	l, x := openedWith(t, 30)
	for range 10 {
		x.Fail(1)
		expectAppend(t, l, filled(20), api.ErrFail)
		expectTape(t, x, "")
	}
	expectAppend(t, l, filled(24), nil)
	expectHas(t, l, x, filled(24))
}

func TestAppendCutsOffNoMoreThanItsOwn(t *testing.T) { // P8.2
	// Another log's record, on the same tape, isn't of what failed.
	one, x := openedWith(t, 1000, "ab")
	two := opened(t, x)
	expectAppend(t, two, "c", nil)
	for fail := range 2 {
		x.Fail(fail)
		expectAppend(t, one, "def", api.ErrFail)
		expectAll(t, one, "ab")
		expectHas(t, two, x, "ab", "c")
	}
	expectLasts(t, x, "ab", "c")
}

func TestWhileTheTapeIsDown(t *testing.T) { // P8.2
	l, x := openedWith(t, 1000, "ab", "c")
	x.Crash(0)
	for range 2 {
		expectAppend(t, l, "d", api.ErrGone)
		expectClear(t, l, api.ErrGone)
		expectAll(t, l, "ab", "c")
		if _, err := x.Read(); err != api.ErrGone {
			t.Error(err)
		}
	}
	x.Up()
	expectHas(t, l, x, "ab", "c")
	expectAppend(t, l, "d", nil)
	expectHas(t, l, x, "ab", "c", "d")
}

func TestClear(t *testing.T) { // P8.2
	for _, before := range [][]string{nil, {"ab"}, {"ab", "c"}, {filled(maxRecord)}} {
		l, x := openedWith(t, maxRoom, before...)
		expectClear(t, l, nil)
		expectHas(t, l, x)
		expectClear(t, l, nil)
		expectLasts(t, x)
		expectAppend(t, l, "d", nil)
		expectHas(t, l, x, "d")
		expectLasts(t, x, "d")
	}
}

func TestClearCutsAllOff(t *testing.T) { // P8.2
	l, x := openedWith(t, 20, "ab")
	if err := x.Append([]byte("\x00\x02")); err != nil {
		t.Fatal(err)
	}
	x.Fail(0)
	expectClear(t, l, nil)
	expectHas(t, l, x)
	expectAppend(t, l, "c", api.ErrFail)
	// All of the room is there again.
	expectAppend(t, l, filled(14), nil)
	expectHas(t, l, x, filled(14))
}

func TestLogsAreApart(t *testing.T) { // P8.2
	one, x := openedWith(t, 1000, "ab")
	two, y := openedWith(t, 1000, "c")
	x.Fail(0)
	expectAppend(t, two, "d", nil)
	expectAppend(t, one, "e", api.ErrFail)
	y.Crash(0)
	expectAppend(t, one, "e", nil)
	expectClear(t, two, api.ErrGone)
	expectHas(t, one, x, "ab", "e")
	expectClear(t, one, nil)
	expectHas(t, opened(t, y), y, "c", "d")
}

func TestNothingHandedInIsChangedOrKept(t *testing.T) { // P8.3
	l, x := openedWith(t, 1000)
	whole := []byte("abcdef")
	if err := l.Append(whole[:3]); err != nil {
		t.Fatal(err)
	}
	expectAppend(t, l, "xyz", nil)
	if string(whole) != "abcdef" {
		t.Errorf("Append's bytes are %q", whole)
	}
	copy(whole, "123456")
	expectHas(t, l, x, "abc", "xyz")

	b := []byte(laidAll("ab", "c") + "rest")
	given := bytes.Clone(b)
	got, _ := wal.Records(b[:len(b)-2])
	if !bytes.Equal(b, given) {
		t.Errorf("Records' bytes are %q", b)
	}
	clear(b)
	if !slices.Equal(texts(got), []string{"ab", "c"}) {
		t.Errorf("Records' answer is %q", got)
	}
}

// spoil writes over all that lists have, and over the room behind it.
func spoil(l [][]byte) {
	for i := range l {
		for j := range l[i] {
			l[i][j] = '!'
		}
		_ = append(l[i], "????????????????"...)
	}
	for i := range l {
		l[i] = nil
	}
}

func TestWhatIsToldIsNewMemory(t *testing.T) { // P8.3
	x := with(t, laidAll("abc", "d"))
	l := opened(t, x)
	expectAppend(t, l, "ef", nil)
	one, two := l.All(), l.All()
	spoil(one)
	expectHas(t, l, x, "abc", "d", "ef")
	if !slices.Equal(texts(two), []string{"abc", "d", "ef"}) {
		t.Errorf("two answers share memory: %q", two)
	}
	_ = append(two[:1], []byte("x"), []byte("y"))
	two = l.All()
	_ = append(two[0], "!!!!!!!!!!!!"...)
	if !slices.Equal(texts(two), []string{"abc", "d", "ef"}) {
		t.Errorf("two records share memory: %q", two)
	}
	expectClear(t, l, nil)
	expectAppend(t, l, "zzz", nil)
	if !slices.Equal(texts(two), []string{"abc", "d", "ef"}) {
		t.Errorf("a cleared log is seen in what was told: %q", two)
	}

	b := []byte(laidAll("abc", "d", "ef") + "rest")
	got, _ := wal.Records(b)
	_ = append(got[0], "!!!!!!!!!!!!"...)
	if !slices.Equal(texts(got), []string{"abc", "d", "ef"}) {
		t.Errorf("two records share memory: %q", got)
	}
	spoil(got)
	if string(b) != laidAll("abc", "d", "ef")+"rest" {
		t.Errorf("Records' answer shares its bytes: %q", b)
	}
}

func TestACrashWithARecordUnderWay(t *testing.T) { // P8.4
	// The tape has as much of it as it kept, and wasn't synced.
	before := []string{"abc", "d"}
	for _, rec := range []string{"e", "fgh", filled(40), laid("x"), strings.Repeat("\x00", 20)} {
		for keep := range len(laid(rec)) + 2 {
			_, x := openedWith(t, 1000, before...)
			if err := x.Append([]byte(laid(rec))); err != nil {
				t.Fatal(err)
			}
			x.Crash(keep)
			want := before
			if keep >= len(laid(rec)) {
				want = append(slices.Clone(before), rec)
			}
			l := opened(t, x)
			expectHas(t, l, x, want...)
			expectLasts(t, x, want...)
		}
	}
}

// model does what the chapter says of a log and its tape, in the plainest way.
type model struct {
	room    int
	records []string
	down    bool
	limited bool
	left    int
}

func (m *model) fails() bool {
	if !m.limited {
		return false
	}
	m.left--
	m.limited = m.left >= 0
	return !m.limited
}

func (m *model) append(rec string) error {
	if rec == "" || len(rec) > maxRecord {
		return api.ErrArg
	}
	if m.down {
		return api.ErrGone
	}
	if m.fails() {
		return api.ErrFail
	}
	next := append(slices.Clone(m.records), rec)
	if len(laidAll(next...)) > m.room {
		return api.ErrFull
	}
	if m.fails() {
		return api.ErrFail
	}
	m.records = next
	return nil
}

func (m *model) clear() error {
	if m.down {
		return api.ErrGone
	}
	m.records = nil
	return nil
}

func (m *model) fail(n int) { m.limited, m.left = n >= 0, n }

func (m *model) crash() {
	if !m.down {
		m.down, m.limited = true, false
	}
}

// walk does what the bytes of y say, on a log and on the model, and holds them
// against each other.
func walk(t testing.TB, y []byte) {
	t.Helper()
	take := func() int {
		if len(y) == 0 {
			return 0
		}
		n := int(y[0])
		y = y[1:]
		return n
	}
	room := 1 + 2*take()
	x, m := made(t, room), &model{room: room}
	l := opened(t, x)
	for len(y) > 0 && !t.Failed() {
		switch take() % 12 {
		case 0, 1, 2, 3, 4, 5:
			rec := strings.Repeat(string(rune('a'+take()%26)), take()/8)
			expectAppend(t, l, rec, m.append(rec))
		case 6:
			if take()%4 == 0 {
				expectClear(t, l, m.clear())
			}
		case 7, 8:
			n := take()%8 - 1
			x.Fail(n)
			m.fail(n)
		case 9:
			x.Crash(take() - 10)
			m.crash()
		case 10:
			x.Up()
			m.down = false
		default:
			l = opened(t, x)
			m.down = false
		}
		expectAll(t, l, m.records...)
		if !m.down {
			expectTape(t, x, laidAll(m.records...))
		}
	}
	expectLasts(t, x, m.records...)
}

func TestRandomCalls(t *testing.T) { // P8.2, P8.4
	r := rand.New(rand.NewSource(88))
	for range 1000 {
		y := make([]byte, r.Intn(400))
		r.Read(y)
		if walk(t, y); t.Failed() {
			t.Fatalf("by %v", y)
		}
	}
}

func TestNoCallPanics(t *testing.T) { // P1
	wal.Open(nil)
	x := made(t, 20)
	l := opened(t, x)
	for _, b := range [][]byte{nil, {}, {0}, {0, 0}, {255, 255}, {1, 2, 3}, []byte(laid("")), []byte(laid("ab")),
		make([]byte, maxRecord), make([]byte, maxRecord+1), make([]byte, 1<<16), make([]byte, 2*maxRoom)} {
		for _, n := range []int{math.MinInt, -1, 0, 1, 2, math.MaxInt} {
			wal.Records(b)
			x.Fail(n)
			l.Append(b)
			l.All()
			x.Append(b)
			l.Append(b)
			x.Fail(n)
			l.Append([]byte{1})
			l.Clear()
			x.Crash(n)
			l.Append(b)
			l.All()
			l.Clear()
			l, _ = wal.Open(x)
			x.Cut(0)
			x.Fail(1)
			l.Append([]byte{1})
		}
	}
}

func FuzzRecords(f *testing.F) {
	f.Add([]byte(laidAll("abc", "d")))
	f.Add([]byte(laidAll("abc", "") + "\x00\x01"))
	f.Fuzz(func(t *testing.T, b []byte) { expectRecords(t, string(b), parsed(string(b))...) })
}

func FuzzCalls(f *testing.F) {
	f.Add([]byte{20, 0, 1, 30, 7, 2, 1, 2, 80, 9, 5, 0, 1, 9, 11, 2, 3, 40})
	f.Add([]byte{255, 0, 1, 200, 1, 2, 200, 6, 0, 2, 5, 255, 11, 9, 0, 10, 3, 7, 99})
	f.Fuzz(func(t *testing.T, y []byte) { walk(t, y) })
}
