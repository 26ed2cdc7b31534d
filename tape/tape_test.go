package tape_test

import (
	"bytes"
	"math"
	"math/rand"
	"strings"
	"testing"

	"tankard/api"
	"tankard/tape"
)

const maxRoom = 1 << 20

// model does what the chapter says, in the plainest way: the synced bytes and
// the others are two lists.
type model struct {
	room    int
	firm    []byte
	loose   []byte
	down    bool
	limited bool
	left    int
}

func (m *model) all() []byte { return bytes.Join([][]byte{m.firm, m.loose}, nil) }

func (m *model) call() error {
	if m.down {
		return api.ErrGone
	}
	if !m.limited {
		return nil
	}
	m.left--
	m.limited = m.left >= 0
	if !m.limited {
		return api.ErrFail
	}
	return nil
}

func (m *model) append(b []byte) error {
	if err := m.call(); err != nil {
		return err
	}
	if len(m.all())+len(b) > m.room {
		return api.ErrFull
	}
	m.loose = bytes.Join([][]byte{m.loose, b}, nil)
	return nil
}

func (m *model) sync() error {
	if err := m.call(); err != nil {
		return err
	}
	m.firm, m.loose = m.all(), nil
	return nil
}

func (m *model) read() ([]byte, error) {
	if m.down {
		return nil, api.ErrGone
	}
	return m.all(), nil
}

func (m *model) cut(n int) error {
	if m.down {
		return api.ErrGone
	}
	if n < 0 || n > len(m.all()) {
		return api.ErrArg
	}
	m.firm, m.loose = m.all()[:n], nil
	return nil
}

func (m *model) fail(n int) { m.limited, m.left = n >= 0, n }

func (m *model) crash(keep int) {
	if m.down {
		return
	}
	for i := 0; i < keep && i < len(m.loose); i++ {
		m.firm = bytes.Join([][]byte{m.firm, m.loose[i : i+1]}, nil)
	}
	m.loose, m.down, m.limited = nil, true, false
}

func (m *model) up() { m.down = false }

func made(t testing.TB, room int) *tape.Tape {
	t.Helper()
	x, err := tape.New(room)
	if err != nil || x == nil {
		t.Fatalf("New(%d): %v, %v", room, x, err)
	}
	return x
}

// with is a tape that has bytes of both kinds.
func with(t testing.TB, room int, firm, loose string) *tape.Tape {
	t.Helper()
	x := made(t, room)
	expectAppend(t, x, firm, nil)
	expectSync(t, x, nil)
	expectAppend(t, x, loose, nil)
	return x
}

func expectAppend(t testing.TB, x *tape.Tape, b string, want error) {
	t.Helper()
	if err := x.Append([]byte(b)); err != want {
		t.Errorf("Append(%d bytes): %v; want %v itself", len(b), err, want)
	}
}

func expectSync(t testing.TB, x *tape.Tape, want error) {
	t.Helper()
	if err := x.Sync(); err != want {
		t.Errorf("Sync: %v; want %v itself", err, want)
	}
}

func expectRead(t testing.TB, x *tape.Tape, want string) {
	t.Helper()
	if b, err := x.Read(); err != nil || string(b) != want {
		t.Errorf("Read: %q, %v; want %q", b, err, want)
	}
}

// expectGone holds that each call that asks whether the tape is up tells ErrGone
// itself, with no bytes, whatever else it would tell.
func expectGone(t testing.TB, x *tape.Tape) {
	t.Helper()
	for _, b := range []string{"", "x", strings.Repeat("x", 1000)} {
		expectAppend(t, x, b, api.ErrGone)
	}
	expectSync(t, x, api.ErrGone)
	if b, err := x.Read(); len(b) != 0 || err != api.ErrGone {
		t.Errorf("Read: %q, %v; want ErrGone itself", b, err)
	}
	for _, n := range []int{-1, 0, 1, 1000} {
		expectCut(t, x, n, api.ErrGone)
	}
}

func expectCut(t testing.TB, x *tape.Tape, n int, want error) {
	t.Helper()
	if err := x.Cut(n); err != want {
		t.Errorf("Cut(%d): %v; want %v itself", n, err, want)
	}
}

// expectSynced holds that just so many bytes are synced, and no others: it lets
// the tape go down, and come up.
func expectSynced(t testing.TB, x *tape.Tape, want string) {
	t.Helper()
	x.Crash(0)
	x.Up()
	expectRead(t, x, want)
}

func TestTheExample(t *testing.T) { // P7.2
	x := made(t, 10)
	expectAppend(t, x, "ab", nil)
	expectSync(t, x, nil)
	expectAppend(t, x, "cd", nil)
	x.Crash(1)
	x.Up()
	expectRead(t, x, "abc")
}

func TestNewTakesTheRoomsThatMayBe(t *testing.T) { // P7.1
	for _, room := range []int{1, 2, 100, 4096, maxRoom - 1, maxRoom} {
		x := made(t, room)
		expectRead(t, x, "")
		full := strings.Repeat("x", room)
		expectAppend(t, x, full+"x", api.ErrFull)
		expectRead(t, x, "")
		expectAppend(t, x, full, nil)
		expectRead(t, x, full)
		expectAppend(t, x, "y", api.ErrFull)
		expectAppend(t, x, "", nil)
		expectRead(t, x, full)
	}
}

func TestNewRefusesOtherRooms(t *testing.T) { // P7.1
	for _, room := range []int{0, -1, -2, math.MinInt, maxRoom + 1, 2 * maxRoom, math.MaxInt32, math.MaxInt} {
		if x, err := tape.New(room); x != nil || err != api.ErrArg {
			t.Errorf("New(%d): %v, %v; want ErrArg itself", room, x, err)
		}
	}
}

func TestANewTapeIsUpAndAllGoesWell(t *testing.T) { // P7.1
	x := made(t, 10)
	for range 1000 {
		expectSync(t, x, nil)
		expectAppend(t, x, "", nil)
		expectRead(t, x, "")
		expectCut(t, x, 0, nil)
	}
	expectCut(t, x, 1, api.ErrArg)
	expectSynced(t, x, "")
}

func TestTapesAreApart(t *testing.T) { // P7.1
	x, y := with(t, 10, "ab", ""), made(t, 10)
	x.Fail(0)
	expectAppend(t, y, "cd", nil)
	expectSync(t, x, api.ErrFail)
	x.Crash(0)
	expectRead(t, y, "cd")
	expectSync(t, y, nil)
	expectGone(t, x)
	y.Up()
	expectGone(t, x)
	x.Up()
	expectRead(t, x, "ab")
}

func TestAppendStandsBehind(t *testing.T) { // P7.1
	x := made(t, 2000)
	all := make([]byte, 256)
	for i := range all {
		all[i] = byte(i)
	}
	want := ""
	for i, b := range []string{"abc", "", "d", "\x00", string(all), "\xff\xfe", "abc", string(all), "z"} {
		expectAppend(t, x, b, nil)
		want += b
		expectRead(t, x, want)
		expectRead(t, x, want)
		if i%2 == 1 {
			expectSync(t, x, nil)
			expectRead(t, x, want)
		}
	}
	if err := x.Append(nil); err != nil {
		t.Error(err)
	}
	expectRead(t, x, want)
}

func TestAppendRefusesWhatThereIsNoRoomFor(t *testing.T) { // P7.1
	x := made(t, 6)
	expectAppend(t, x, "abcdefg", api.ErrFull)
	expectAppend(t, x, "ab", nil)
	expectAppend(t, x, "cdefg", api.ErrFull)
	expectRead(t, x, "ab")
	// As much as would go in isn't taken of what doesn't.
	expectAppend(t, x, "c", nil)
	expectAppend(t, x, "defg", api.ErrFull)
	expectAppend(t, x, "def", nil)
	expectAppend(t, x, "g", api.ErrFull)
	expectSync(t, x, nil)
	expectAppend(t, x, "g", api.ErrFull)
	expectAppend(t, x, "", nil)
	expectRead(t, x, "abcdef")
}

func TestRoomThatIsMadeAnew(t *testing.T) { // P7.1, P7.2
	x := with(t, 6, "abcd", "ef")
	expectAppend(t, x, "g", api.ErrFull)
	expectCut(t, x, 5, nil)
	expectAppend(t, x, "gh", api.ErrFull)
	expectAppend(t, x, "g", nil)
	expectRead(t, x, "abcdeg")
	expectAppend(t, x, "h", api.ErrFull)
	x.Crash(0)
	x.Up()
	expectAppend(t, x, "hi", api.ErrFull)
	expectAppend(t, x, "h", nil)
	expectRead(t, x, "abcdeh")
	expectCut(t, x, 0, nil)
	expectAppend(t, x, "1234567", api.ErrFull)
	expectAppend(t, x, "123456", nil)
	expectRead(t, x, "123456")
}

func TestAppendFillsTheLargestRoom(t *testing.T) { // P7.1
	x := made(t, maxRoom)
	part := strings.Repeat("x", maxRoom/32)
	for range 32 {
		expectAppend(t, x, part, nil)
	}
	expectAppend(t, x, "y", api.ErrFull)
	expectRead(t, x, strings.Repeat(part, 32))
	expectCut(t, x, maxRoom-1, nil)
	expectAppend(t, x, "yz", api.ErrFull)
	expectAppend(t, x, "y", nil)
	expectRead(t, x, strings.Repeat(part, 32)[1:]+"y")
}

func TestSyncSyncsAll(t *testing.T) { // P7.1
	x := made(t, 20)
	expectAppend(t, x, "ab", nil)
	expectAppend(t, x, "cd", nil)
	expectSync(t, x, nil)
	expectSynced(t, x, "abcd")
	expectAppend(t, x, "ef", nil)
	expectSynced(t, x, "abcd")
	expectAppend(t, x, "gh", nil)
	expectSync(t, x, nil)
	expectSync(t, x, nil)
	expectAppend(t, x, "ij", nil)
	expectSynced(t, x, "abcdgh")
}

func TestCut(t *testing.T) { // P7.1
	all := "abcdef"
	for firm := range len(all) + 1 {
		for n := range len(all) + 1 {
			x := with(t, 10, all[:firm], all[firm:])
			expectCut(t, x, n, nil)
			expectRead(t, x, all[:n])
			expectAppend(t, x, "xy", nil)
			expectRead(t, x, all[:n]+"xy")
			// What stays is synced, whether it was or not; what stands behind isn't.
			expectSynced(t, x, all[:n])
		}
	}
}

func TestCutRefusesOtherPlaces(t *testing.T) { // P7.1
	x := with(t, 10, "ab", "cd")
	for _, n := range []int{-1, -2, -4, math.MinInt, 5, 6, 10, 11, math.MaxInt} {
		expectCut(t, x, n, api.ErrArg)
		expectRead(t, x, "abcd")
	}
	// Nor is anything synced by that.
	expectSynced(t, x, "ab")
	expectCut(t, x, 3, api.ErrArg)
	expectCut(t, x, 2, nil)
	expectCut(t, x, 2, nil)
	expectCut(t, x, 0, nil)
	expectCut(t, x, 0, nil)
	expectCut(t, x, 1, api.ErrArg)
	expectRead(t, x, "")
}

func TestWhichErrorIsToldFirst(t *testing.T) { // P7.1, R1
	x := with(t, 3, "ab", "")
	x.Fail(0)
	expectAppend(t, x, "cdef", api.ErrFail)
	expectAppend(t, x, "cdef", api.ErrFull)
	x.Crash(0)
	x.Fail(0)
	expectGone(t, x)
	x.Up()
	expectAppend(t, x, "cdef", api.ErrFail)
	expectRead(t, x, "ab")
}

func TestFailLetsJustOneCallFail(t *testing.T) { // P7.1
	for _, n := range []int{0, 1, 2, 3, 10} {
		x := with(t, 100, "ab", "cd")
		x.Fail(n)
		for range n {
			expectAppend(t, x, "", nil)
		}
		// What failed is not there, nor as much of it as might be.
		expectAppend(t, x, "ef", api.ErrFail)
		expectRead(t, x, "abcd")
		for range 100 {
			expectAppend(t, x, "", nil)
		}
		expectAppend(t, x, "gh", nil)
		expectRead(t, x, "abcdgh")
		expectSynced(t, x, "ab")
	}
}

func TestASyncThatFailsSyncsNothing(t *testing.T) { // P7.1
	for _, n := range []int{0, 1, 5} {
		x := with(t, 100, "ab", "cd")
		x.Fail(n)
		for range n {
			expectAppend(t, x, "", nil)
		}
		expectSync(t, x, api.ErrFail)
		expectRead(t, x, "abcd")
		expectSynced(t, x, "ab")
		expectAppend(t, x, "cd", nil)
		x.Fail(0)
		expectSync(t, x, api.ErrFail)
		expectSync(t, x, nil)
		expectSynced(t, x, "abcd")
	}
}

func TestFailCountsAppendAndSync(t *testing.T) { // P7.1
	for n := range 6 {
		for mask := range 1 << n {
			x := made(t, 2)
			x.Fail(n)
			for i := range n {
				switch {
				case mask>>i&1 == 0:
					expectSync(t, x, nil)
				case i%2 == 0:
					expectAppend(t, x, "", nil)
				default:
					// What there is no room for went well, as the world goes.
					expectAppend(t, x, "abc", api.ErrFull)
				}
			}
			expectSync(t, x, api.ErrFail)
			expectSync(t, x, nil)
			expectAppend(t, x, "", nil)
		}
	}
}

func TestReadAndCutDoNotCount(t *testing.T) { // P7.1
	x := with(t, 10, "ab", "cd")
	x.Fail(1)
	for range 10 {
		expectRead(t, x, "abcd")
		expectCut(t, x, 4, nil)
		expectCut(t, x, 5, api.ErrArg)
		x.Up()
	}
	expectSync(t, x, nil)
	for range 10 {
		expectRead(t, x, "abcd")
		expectCut(t, x, 4, nil)
		expectCut(t, x, -1, api.ErrArg)
		x.Up()
	}
	expectSync(t, x, api.ErrFail)
	expectSync(t, x, nil)
}

func TestFailIsToldAnew(t *testing.T) { // P7.1
	x := made(t, 10)
	x.Fail(0)
	x.Fail(2)
	expectSync(t, x, nil)
	x.Fail(2)
	expectSync(t, x, nil)
	expectAppend(t, x, "a", nil)
	expectAppend(t, x, "b", api.ErrFail)
	expectAppend(t, x, "b", nil)
	for range 3 {
		x.Fail(0)
		expectSync(t, x, api.ErrFail)
	}
	x.Fail(5)
	x.Fail(0)
	expectSync(t, x, api.ErrFail)
	expectSync(t, x, nil)
	expectRead(t, x, "ab")
}

func TestFailBelowNought(t *testing.T) { // P7.1
	for _, n := range []int{-1, -2, -1000, math.MinInt, math.MaxInt} {
		x := made(t, 10)
		x.Fail(0)
		x.Fail(n)
		for range 100 {
			expectSync(t, x, nil)
			expectAppend(t, x, "", nil)
		}
		x.Fail(0)
		expectAppend(t, x, "", api.ErrFail)
	}
}

func TestCallsWhileItIsDownDoNotCount(t *testing.T) { // P7.1
	for n := range 4 {
		x := with(t, 10, "ab", "")
		x.Crash(0)
		x.Fail(n)
		expectGone(t, x)
		expectGone(t, x)
		x.Up()
		for range n {
			expectSync(t, x, nil)
		}
		expectSync(t, x, api.ErrFail)
		expectSync(t, x, nil)
	}
}

func TestCrashKeepsTheFirstOnes(t *testing.T) { // P7.2
	all := "abcdef"
	for firm := range len(all) + 1 {
		for _, keep := range []int{math.MinInt, math.MinInt + 1, -7, -2, -1, 0, 1, 2, 3, 4, 5, 6, 7, 100, math.MaxInt - 1, math.MaxInt} {
			x := with(t, 10, all[:firm], all[firm:])
			x.Crash(keep)
			expectGone(t, x)
			x.Up()
			stay := firm
			for i := 0; i < keep && stay < len(all); i++ {
				stay++
			}
			expectRead(t, x, all[:stay])
			// What stayed is synced.
			expectSynced(t, x, all[:stay])
			expectAppend(t, x, "x", nil)
			expectRead(t, x, all[:stay]+"x")
			expectSynced(t, x, all[:stay])
		}
	}
}

func TestCrashKeepsOfSeveralAppends(t *testing.T) { // P7.2
	x := with(t, 20, "ab", "c")
	expectAppend(t, x, "def", nil)
	expectAppend(t, x, "gh", nil)
	x.Crash(3)
	x.Up()
	expectRead(t, x, "abcde")
	expectAppend(t, x, "fg", nil)
	x.Crash(1)
	x.Up()
	expectRead(t, x, "abcdef")
}

func TestCrashOfWhatIsDownDoesNothing(t *testing.T) { // P7.2
	x := with(t, 10, "ab", "cd")
	x.Crash(1)
	for _, keep := range []int{math.MinInt, -1, 0, 1, 5, math.MaxInt} {
		x.Crash(keep)
		expectGone(t, x)
	}
	// Nor does it let all go well again.
	x.Fail(0)
	x.Crash(0)
	x.Up()
	expectSync(t, x, api.ErrFail)
	expectRead(t, x, "abc")
}

func TestAllGoesWellBehindACrash(t *testing.T) { // P7.2
	for n := range 4 {
		x := with(t, 10, "ab", "")
		x.Fail(n)
		x.Crash(0)
		x.Up()
		for range 10 {
			expectSync(t, x, nil)
			expectAppend(t, x, "", nil)
		}
	}
}

func TestUp(t *testing.T) { // P7.2
	// Of what is up it changes nothing.
	x := with(t, 10, "ab", "cd")
	x.Fail(1)
	x.Up()
	expectRead(t, x, "abcd")
	expectAppend(t, x, "e", nil)
	x.Up()
	expectAppend(t, x, "f", api.ErrFail)
	expectSynced(t, x, "ab")
	x.Crash(0)
	expectGone(t, x)
	x.Up()
	x.Up()
	expectRead(t, x, "ab")
	x.Crash(0)
	expectGone(t, x)
}

func TestNothingHandedInIsChangedOrKept(t *testing.T) { // P7.3
	x := made(t, 100)
	whole := []byte("abcdef")
	if err := x.Append(whole[:3]); err != nil {
		t.Fatal(err)
	}
	expectAppend(t, x, "xyz", nil)
	if string(whole) != "abcdef" {
		t.Errorf("Append's bytes are %q", whole)
	}
	copy(whole, "123456")
	expectRead(t, x, "abcxyz")
	expectCut(t, x, 0, nil)
	expectAppend(t, x, "!!!!!!", nil)
	if string(whole) != "123456" {
		t.Errorf("Append's bytes are %q", whole)
	}
}

func TestWhatIsToldIsNewMemory(t *testing.T) { // P7.3
	x := with(t, 100, "abc", "def")
	one, _ := x.Read()
	two, _ := x.Read()
	for i := range one {
		one[i] = 'x'
	}
	_ = append(one[:1], "yyyyyyyyyyyy"...)
	if string(two) != "abcdef" {
		t.Errorf("two answers share memory: %q", two)
	}
	expectRead(t, x, "abcdef")
	expectCut(t, x, 1, nil)
	expectAppend(t, x, "zzzzz", nil)
	if string(two) != "abcdef" {
		t.Errorf("a cut tape is seen in what was told: %q", two)
	}
	// What was read may be appended.
	if x.Append(two) != nil {
		t.Fatal("not appended")
	}
	two[0] = '!'
	expectRead(t, x, "azzzzzabcdef")
	three, _ := x.Read()
	_ = append(three, "?????"...)
	expectAppend(t, x, "g", nil)
	expectRead(t, x, "azzzzzabcdefg")
}

func TestWhatWasSyncedStays(t *testing.T) { // P7.4
	r := rand.New(rand.NewSource(74))
	for range 200 {
		x := made(t, 300)
		synced := ""
		for range 100 {
			switch r.Intn(6) {
			case 0, 1:
				x.Append([]byte(strings.Repeat("x", r.Intn(20))))
			case 2:
				b, _ := x.Read()
				if x.Sync() == nil {
					synced = string(b)
				}
			case 3:
				x.Fail(r.Intn(4) - 1)
			case 4:
				x.Crash(r.Intn(30) - 5)
			case 5:
				x.Up()
			}
			if b, err := x.Read(); err == nil && !strings.HasPrefix(string(b), synced) {
				t.Fatalf("%q was synced, there is %q", synced, b)
			}
		}
		x.Up()
		if b, err := x.Read(); err != nil || !strings.HasPrefix(string(b), synced) {
			t.Fatalf("%q was synced, there is %q, %v", synced, b, err)
		}
	}
}

// walk does what the bytes of y say, on a tape and on the model, and holds them
// against each other.
func walk(t testing.TB, y []byte) {
	t.Helper()
	take := func() int {
		if len(y) == 0 {
			return 0
		}
		n := int(y[0])
		y = y[1:]
		return n
	}
	room := 1 + take()
	x, m := made(t, room), &model{room: room}
	for len(y) > 0 {
		switch kind := take() % 10; kind {
		case 0, 1, 2:
			b := bytes.Repeat([]byte{byte(take())}, take()/4)
			if got, want := x.Append(b), m.append(b); got != want {
				t.Fatalf("Append(%d bytes): %v; want %v", len(b), got, want)
			}
		case 3, 4:
			if got, want := x.Sync(), m.sync(); got != want {
				t.Fatalf("Sync: %v; want %v", got, want)
			}
		case 5:
			n := take() - 2
			if got, want := x.Cut(n), m.cut(n); got != want {
				t.Fatalf("Cut(%d): %v; want %v", n, got, want)
			}
		case 6:
			n := take()%8 - 2
			x.Fail(n)
			m.fail(n)
		case 7:
			keep := take()%80 - 10
			x.Crash(keep)
			m.crash(keep)
		default:
			x.Up()
			m.up()
		}
		got, err := x.Read()
		if want, wantErr := m.read(); err != wantErr || !bytes.Equal(got, want) {
			t.Fatalf("Read: %q, %v; want %q, %v", got, err, want, wantErr)
		}
	}
	for _, keep := range []int{1, 0} {
		x.Crash(keep)
		m.crash(keep)
		x.Up()
		m.up()
		if got, err := x.Read(); err != nil || !bytes.Equal(got, m.all()) {
			t.Fatalf("Read behind a crash: %q, %v; want %q", got, err, m.all())
		}
	}
}

func TestRandomCalls(t *testing.T) { // P7.1 to P7.4
	r := rand.New(rand.NewSource(77))
	for range 2000 {
		y := make([]byte, r.Intn(500))
		r.Read(y)
		walk(t, y)
	}
}

func TestNoCallPanics(t *testing.T) { // P1
	numbers := []int{math.MinInt, math.MinInt + 1, -1, 0, 1, 2, maxRoom, math.MaxInt - 1, math.MaxInt}
	for _, n := range numbers {
		tape.New(n)
	}
	x := made(t, 3)
	for _, b := range [][]byte{nil, {}, {1}, {1, 2, 3}, {1, 2, 3, 4}, make([]byte, 2*maxRoom)} {
		for _, n := range numbers {
			for _, m := range numbers {
				x.Append(b)
				x.Fail(n)
				x.Append(b)
				x.Sync()
				x.Append(b)
				x.Cut(m)
				x.Append(b)
				x.Read()
				x.Crash(n)
				x.Append(b)
				x.Fail(m)
				x.Sync()
				x.Read()
				x.Cut(n)
				x.Crash(m)
				x.Up()
			}
		}
	}
}

func FuzzCalls(f *testing.F) {
	f.Add([]byte{5, 0, 97, 8, 3, 1, 98, 8, 7, 11, 8, 5, 4})
	f.Add([]byte{255, 6, 3, 0, 1, 200, 3, 2, 1, 1, 7, 0, 6, 2, 9, 3, 4, 9, 4, 9})
	f.Fuzz(func(t *testing.T, y []byte) { walk(t, y) })
}
