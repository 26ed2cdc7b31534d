package store_test

import (
	"bytes"
	"math"
	"math/rand"
	"slices"
	"sort"
	"strings"
	"testing"
	"unsafe"

	"tankard/api"
	"tankard/store"
)

const (
	maxRoom = 1 << 20
	maxName = 32
	letters = "abcdefghijklmnopqrstuvwxyz0123456789/-"
)

// object is one of the model's: a list of them, in no order, worked by hand.
type object struct {
	name string
	b    []byte
}

// model does what the chapter says, in the plainest way.
type model struct {
	room    int
	objects []object
	calls   int
	limited bool
	left    int
}

func (m *model) find(name string) int {
	return slices.IndexFunc(m.objects, func(o object) bool { return o.name == name })
}

func (m *model) used() int {
	n := 0
	for _, o := range m.objects {
		n += len(o.b)
	}
	return n
}

func (m *model) fails() bool {
	m.calls++
	if !m.limited {
		return false
	}
	m.left--
	m.limited = m.left >= 0
	return !m.limited
}

func (m *model) put(name string, b []byte) error {
	if m.fails() {
		return api.ErrFail
	}
	if len(name) == 0 || len(name) > maxName || strings.Trim(name, letters) != "" {
		return api.ErrArg
	}
	next := model{objects: slices.Clone(m.objects)}
	if i := next.find(name); i >= 0 {
		next.objects = slices.Delete(next.objects, i, i+1)
	}
	next.objects = append(next.objects, object{name, bytes.Clone(b)})
	if next.used() > m.room {
		return api.ErrFull
	}
	m.objects = next.objects
	return nil
}

func (m *model) get(name string) ([]byte, error) {
	if m.fails() {
		return nil, api.ErrFail
	}
	i := m.find(name)
	if i < 0 {
		return nil, api.ErrNone
	}
	return m.objects[i].b, nil
}

func (m *model) list(prefix string) ([]string, error) {
	if m.fails() {
		return nil, api.ErrFail
	}
	var out []string
	for _, o := range m.objects {
		if len(o.name) >= len(prefix) && o.name[:len(prefix)] == prefix {
			out = append(out, o.name)
		}
	}
	sort.Strings(out)
	return out, nil
}

func (m *model) delete(name string) error {
	if m.fails() {
		return api.ErrFail
	}
	i := m.find(name)
	if i < 0 {
		return api.ErrNone
	}
	m.objects = slices.Delete(m.objects, i, i+1)
	return nil
}

func (m *model) fail(n int) { m.limited, m.left = n >= 0, n }

func (m *model) alter(name string, at int, x byte) bool {
	i := m.find(name)
	if i < 0 || at < 0 || at >= len(m.objects[i].b) || x == 0 {
		return false
	}
	b := bytes.Clone(m.objects[i].b)
	b[at] ^= x
	m.objects[i].b = b
	return true
}

func made(t testing.TB, room int) *store.Store {
	t.Helper()
	s, err := store.New(room)
	if err != nil || s == nil {
		t.Fatalf("New(%d): %v, %v", room, s, err)
	}
	return s
}

func expectPut(t testing.TB, s *store.Store, name, b string, want error) {
	t.Helper()
	if err := s.Put(name, []byte(b)); err != want {
		t.Errorf("Put(%q, %d bytes): %v; want %v itself", name, len(b), err, want)
	}
}

func expectGot(t testing.TB, s *store.Store, name, want string) {
	t.Helper()
	if b, err := s.Get(name); err != nil || string(b) != want {
		t.Errorf("Get(%q): %q, %v; want %q", name, b, err, want)
	}
}

// expectNotGot holds that an error is told itself, and with it no bytes.
func expectNotGot(t testing.TB, s *store.Store, name string, want error) {
	t.Helper()
	if b, err := s.Get(name); err != want || len(b) != 0 {
		t.Errorf("Get(%q): %q, %v; want %v itself", name, b, err, want)
	}
}

func expectList(t testing.TB, s *store.Store, prefix string, want ...string) {
	t.Helper()
	if l, err := s.List(prefix); err != nil || !slices.Equal(l, want) {
		t.Errorf("List(%q): %q, %v; want %q", prefix, l, err, want)
	}
}

// expectNotListed holds that an error is told itself, and with it no names.
func expectNotListed(t testing.TB, s *store.Store, prefix string) {
	t.Helper()
	if l, err := s.List(prefix); err != api.ErrFail || len(l) != 0 {
		t.Errorf("List(%q): %q, %v; want ErrFail itself", prefix, l, err)
	}
}

func expectDelete(t testing.TB, s *store.Store, name string, want error) {
	t.Helper()
	if err := s.Delete(name); err != want {
		t.Errorf("Delete(%q): %v; want %v itself", name, err, want)
	}
}

func expectAlter(t testing.TB, s *store.Store, name string, at int, x byte, want bool) {
	t.Helper()
	if ok := s.Alter(name, at, x); ok != want {
		t.Errorf("Alter(%q, %d, %d): %v; want %v", name, at, x, ok, want)
	}
}

func expectCounts(t testing.TB, s *store.Store, calls, used int) {
	t.Helper()
	if s.Calls() != calls || s.Used() != used {
		t.Errorf("%d calls, %d bytes; want %d, %d", s.Calls(), s.Used(), calls, used)
	}
}

// expectHas holds that a store has just the model's objects. What it asks are
// calls, of which the model knows.
func expectHas(t testing.TB, s *store.Store, m *model) {
	t.Helper()
	want, _ := m.list("")
	expectList(t, s, "", want...)
	for _, name := range want {
		b, _ := m.get(name)
		expectGot(t, s, name, string(b))
	}
	expectCounts(t, s, m.calls, m.used())
}

// names are each letter by itself, the longest ones, and some as other layers
// give them.
func names() []string {
	out := []string{strings.Repeat("z", maxName), letters[:maxName], letters[len(letters)-maxName:], "/", "-", "//", "a/b", "b/1/meta", "0-9"}
	for i := range letters {
		out = append(out, letters[i:i+1])
	}
	slices.Sort(out)
	return slices.Compact(out)
}

func notNames() []string {
	out := []string{"", strings.Repeat("a", maxName+1), strings.Repeat("a", 1000), "\xff", "\xc3\xa4", "ä", "ab\x00", "a/b.c", "a b", "A/b", "b/Z", "a_", " a", "a "}
	for c := range 256 {
		if one := string([]byte{byte(c)}); !strings.Contains(letters, one) {
			out = append(out, one, "a"+one, one+"a", "a"+one+"a")
		}
	}
	return out
}

func TestNewTakesTheRoomsThatMayBe(t *testing.T) { // P6.1
	for _, room := range []int{1, 2, 100, 4096, maxRoom - 1, maxRoom} {
		s := made(t, room)
		expectCounts(t, s, 0, 0)
		expectList(t, s, "")
		expectPut(t, s, "a", strings.Repeat("x", room+1), api.ErrFull)
		expectPut(t, s, "a", strings.Repeat("x", room), nil)
		expectCounts(t, s, 3, room)
		expectPut(t, s, "b", "x", api.ErrFull)
		expectPut(t, s, "b", "", nil)
	}
}

func TestNewRefusesOtherRooms(t *testing.T) { // P6.1
	for _, room := range []int{0, -1, -2, math.MinInt, maxRoom + 1, 2 * maxRoom, math.MaxInt32, math.MaxInt} {
		if s, err := store.New(room); s != nil || err != api.ErrArg {
			t.Errorf("New(%d): %v, %v; want ErrArg itself", room, s, err)
		}
	}
}

func TestStoresAreApart(t *testing.T) { // P6.1
	a, b := made(t, 10), made(t, 10)
	expectPut(t, a, "x", "abc", nil)
	a.Fail(0)
	expectNotGot(t, b, "x", api.ErrNone)
	expectCounts(t, b, 1, 0)
	expectNotGot(t, a, "x", api.ErrFail)
	expectCounts(t, a, 2, 3)
}

func TestPutThenGet(t *testing.T) { // P6.2, P6.5
	s := made(t, 1000)
	for i, name := range names() {
		expectNotGot(t, s, name, api.ErrNone)
		expectPut(t, s, name, name+"!", nil)
		expectGot(t, s, name, name+"!")
		expectGot(t, s, name, name+"!")
		if i > 0 {
			expectGot(t, s, names()[0], names()[0]+"!")
		}
	}
	for _, name := range names() {
		expectGot(t, s, name, name+"!")
	}
	expectList(t, s, "", names()...)
}

func TestPutHasTheBytesAsAWhole(t *testing.T) { // P6.2
	s := made(t, 300)
	all := make([]byte, 256)
	for i := range all {
		all[i] = byte(i)
	}
	for _, b := range []string{"abcdef", "xy", "", "abc", string(all), "\x00", "\x00\x00", ""} {
		expectPut(t, s, "a", b, nil)
		expectGot(t, s, "a", b)
		expectList(t, s, "", "a")
		if s.Used() != len(b) {
			t.Errorf("%d bytes; want %d", s.Used(), len(b))
		}
	}
}

func TestPutOfNoBytes(t *testing.T) { // P6.2
	// An object without bytes is there all the same.
	s := made(t, 1)
	if err := s.Put("a", nil); err != nil {
		t.Error(err)
	}
	expectPut(t, s, "b", "", nil)
	expectGot(t, s, "a", "")
	expectGot(t, s, "b", "")
	expectList(t, s, "", "a", "b")
	expectAlter(t, s, "a", 0, 1, false)
	expectPut(t, s, "c", "x", nil)
	expectPut(t, s, "d", "", nil)
	expectDelete(t, s, "a", nil)
	expectDelete(t, s, "a", api.ErrNone)
	expectList(t, s, "", "b", "c", "d")
	if s.Used() != 1 {
		t.Error(s.Used())
	}
}

func TestPutRefusesWhatIsNoName(t *testing.T) { // P6.2, P6.5
	s := made(t, 10)
	expectPut(t, s, "a", "abc", nil)
	for i, name := range notNames() {
		expectPut(t, s, name, "x", api.ErrArg)
		expectCounts(t, s, 2+i, 3)
	}
	expectList(t, s, "", "a")
}

func TestNamesThatAreNoneAreNotThere(t *testing.T) { // P6.2
	// Get and Delete name no ErrArg.
	s := made(t, 10)
	expectPut(t, s, "a", "abc", nil)
	for _, name := range notNames() {
		expectNotGot(t, s, name, api.ErrNone)
		expectDelete(t, s, name, api.ErrNone)
		expectAlter(t, s, name, 0, 1, false)
	}
	expectGot(t, s, "a", "abc")
}

func TestPutRefusesWhatThereIsNoRoomFor(t *testing.T) { // P6.2, P6.5
	s := made(t, 5)
	expectPut(t, s, "a", "abc", nil)
	expectPut(t, s, "b", "def", api.ErrFull)
	expectNotGot(t, s, "b", api.ErrNone)
	expectPut(t, s, "b", "de", nil)
	expectPut(t, s, "c", "f", api.ErrFull)
	expectList(t, s, "", "a", "b")
	// What the name has makes room for what is put in its place.
	expectPut(t, s, "a", "xyzw", api.ErrFull)
	expectGot(t, s, "a", "abc")
	expectPut(t, s, "a", "xyz", nil)
	expectPut(t, s, "a", "x", nil)
	expectPut(t, s, "a", "xyz", nil)
	expectPut(t, s, "b", "", nil)
	expectPut(t, s, "a", "vwxyz!", api.ErrFull)
	expectPut(t, s, "a", "vwxyz", nil)
	expectGot(t, s, "a", "vwxyz")
	expectPut(t, s, "b", "!", api.ErrFull)
	expectDelete(t, s, "a", nil)
	expectPut(t, s, "b", "hello", nil)
	expectGot(t, s, "b", "hello")
	if s.Used() != 5 {
		t.Error(s.Used())
	}
}

func TestNamesTakeNoRoom(t *testing.T) { // P6.1, P6.2
	s := made(t, 1)
	for _, name := range names() {
		expectPut(t, s, name, "", nil)
	}
	expectPut(t, s, names()[0], "x", nil)
	if s.Used() != 1 {
		t.Error(s.Used())
	}
}

func TestPutFillsTheLargestRoom(t *testing.T) { // P6.1, P6.2
	s := made(t, maxRoom)
	part := strings.Repeat("x", maxRoom/32)
	for i := range 32 {
		expectPut(t, s, letters[i:i+1], part, nil)
	}
	if s.Used() != maxRoom {
		t.Error(s.Used())
	}
	expectPut(t, s, "new", "y", api.ErrFull)
	expectPut(t, s, "a", part+"y", api.ErrFull)
	expectPut(t, s, "a", part, nil)
	expectPut(t, s, "a", part[1:], nil)
	expectPut(t, s, "new", "y", nil)
	expectGot(t, s, "b", part)
	if s.Used() != maxRoom {
		t.Error(s.Used())
	}
}

func TestWhichErrorIsToldFirst(t *testing.T) { // P6.2, R1
	s := made(t, 2)
	large := strings.Repeat("x", 3)
	expectPut(t, s, "A", large, api.ErrArg)
	s.Fail(0)
	expectPut(t, s, "A", large, api.ErrFail)
	s.Fail(0)
	expectPut(t, s, "a", large, api.ErrFail)
	expectPut(t, s, "a", large, api.ErrFull)
	s.Fail(0)
	expectNotGot(t, s, "a", api.ErrFail)
	s.Fail(0)
	expectDelete(t, s, "a", api.ErrFail)
	s.Fail(0)
	expectNotListed(t, s, "")
	expectCounts(t, s, 7, 0)
}

func TestListOfPrefixes(t *testing.T) { // P6.2
	s := made(t, 100)
	// Ahead of the letters stand digits, ahead of these /, and - ahead of all.
	all := []string{"-", "-a", "/", "0", "a", "a-", "a/", "a/1", "a/10", "a/2", "a0", "aa", "ab", "b", "b/1", "b/1/x", "b/12", "z"}
	for _, i := range rand.New(rand.NewSource(6)).Perm(len(all)) {
		expectPut(t, s, all[i], "x", nil)
	}
	for prefix, want := range map[string][]string{
		"":                                all,
		"-":                               {"-", "-a"},
		"a":                               {"a", "a-", "a/", "a/1", "a/10", "a/2", "a0", "aa", "ab"},
		"a/":                              {"a/", "a/1", "a/10", "a/2"},
		"a/1":                             {"a/1", "a/10"},
		"a/10":                            {"a/10"},
		"a/100":                           nil,
		"b/1":                             {"b/1", "b/1/x", "b/12"},
		"c":                               nil,
		"/":                               {"/"},
		"/1":                              nil,
		"z":                               {"z"},
		"A":                               nil,
		"a ":                              nil,
		"\xff":                            nil,
		"\x00":                            nil,
		strings.Repeat("a", maxName):      nil,
		strings.Repeat("a", 100*maxName):  nil,
		"b/1/x" + strings.Repeat("x", 40): nil,
	} {
		// Often, since a map's order is another one each time.
		for range 5 {
			expectList(t, s, prefix, want...)
		}
	}
}

func TestDelete(t *testing.T) { // P6.2
	s := made(t, 10)
	expectDelete(t, s, "a", api.ErrNone)
	expectDelete(t, s, "", api.ErrNone)
	expectPut(t, s, "a", "abc", nil)
	expectPut(t, s, "a/1", "de", nil)
	expectDelete(t, s, "a/", api.ErrNone)
	expectDelete(t, s, "a", nil)
	expectNotGot(t, s, "a", api.ErrNone)
	expectAlter(t, s, "a", 0, 1, false)
	expectGot(t, s, "a/1", "de")
	expectList(t, s, "", "a/1")
	expectDelete(t, s, "a", api.ErrNone)
	expectPut(t, s, "a", "f", nil)
	expectGot(t, s, "a", "f")
	expectDelete(t, s, "a", nil)
	expectDelete(t, s, "a/1", nil)
	expectList(t, s, "")
	if s.Used() != 0 {
		t.Error(s.Used())
	}
}

// failings are the calls that count, each of which tells only its error.
func failings() []func(s *store.Store) error {
	return []func(s *store.Store) error{
		func(s *store.Store) error { return s.Put("a", []byte("z")) },
		func(s *store.Store) error { return s.Put("c", []byte("z")) },
		func(s *store.Store) error { return s.Put("", nil) },
		func(s *store.Store) error { _, err := s.Get("a"); return err },
		func(s *store.Store) error { _, err := s.Get("c"); return err },
		func(s *store.Store) error { _, err := s.List(""); return err },
		func(s *store.Store) error { return s.Delete("a") },
		func(s *store.Store) error { return s.Delete("c") },
	}
}

func TestFailOfTheExample(t *testing.T) { // P6.1
	s := made(t, 10)
	s.Fail(0)
	expectPut(t, s, "a", "x", api.ErrFail)
	expectPut(t, s, "a", "x", nil)
}

func TestFailLetsJustOneCallFail(t *testing.T) { // P6.1, P6.5
	for _, call := range failings() {
		for _, n := range []int{0, 1, 2, 3, 10} {
			s := made(t, 5)
			expectPut(t, s, "a", "abc", nil)
			expectPut(t, s, "b", "de", nil)
			s.Fail(n)
			for range n {
				expectList(t, s, "", "a", "b")
			}
			if err := call(s); err != api.ErrFail {
				t.Errorf("behind %d: %v; want ErrFail itself", n, err)
			}
			expectCounts(t, s, n+3, 5)
			for range 3 {
				expectList(t, s, "", "a", "b")
				expectGot(t, s, "a", "abc")
				expectGot(t, s, "b", "de")
			}
			if err := call(s); err == api.ErrFail {
				t.Errorf("behind %d: a second one failed", n)
			}
		}
	}
}

func TestFailCountsEachCall(t *testing.T) { // P6.1
	// What tells another error went well, as the world goes.
	for i, call := range failings() {
		for n := 1; n < 4; n++ {
			s := made(t, 5)
			s.Fail(n)
			for range n {
				if err := call(s); err == api.ErrFail {
					t.Errorf("call %d failed ahead of the one behind %d", i, n)
				}
			}
			expectNotListed(t, s, "")
			expectCounts(t, s, n+1, s.Used())
		}
	}
}

func TestWhatIsNoCallDoesNotCount(t *testing.T) { // P6.1, P6.3
	s := made(t, 5)
	expectPut(t, s, "a", "abc", nil)
	s.Fail(1)
	for range 5 {
		expectAlter(t, s, "a", 0, 3, true)
		expectAlter(t, s, "a", 9, 3, false)
		expectCounts(t, s, 1, 3)
	}
	expectGot(t, s, "a", "bbc")
	expectAlter(t, s, "a", 0, 3, true)
	expectNotGot(t, s, "a", api.ErrFail)
	expectGot(t, s, "a", "abc")
	expectCounts(t, s, 4, 3)
}

func TestFailIsToldAnew(t *testing.T) { // P6.1
	s := made(t, 5)
	s.Fail(0)
	s.Fail(2)
	expectList(t, s, "")
	s.Fail(2)
	expectList(t, s, "")
	expectList(t, s, "")
	expectNotListed(t, s, "")
	expectList(t, s, "")
	s.Fail(0)
	expectNotListed(t, s, "")
	s.Fail(0)
	expectNotListed(t, s, "")
	s.Fail(5)
	s.Fail(0)
	expectNotListed(t, s, "")
	expectList(t, s, "")
}

func TestFailBelowNought(t *testing.T) { // P6.1
	for _, n := range []int{-1, -2, -1000, math.MinInt, math.MaxInt} {
		s := made(t, 5)
		s.Fail(0)
		s.Fail(n)
		for range 100 {
			expectList(t, s, "")
		}
		s.Fail(0)
		expectNotListed(t, s, "")
	}
}

func TestAlter(t *testing.T) { // P6.3
	s := made(t, 100)
	expectPut(t, s, "a", "abc", nil)
	expectPut(t, s, "b", "abc", nil)
	for _, at := range []int{-1, -3, 3, 4, math.MinInt, math.MaxInt} {
		expectAlter(t, s, "a", at, 1, false)
	}
	for at := range 3 {
		expectAlter(t, s, "a", at, 0, false)
	}
	for _, name := range []string{"", "c", "A", "a/", strings.Repeat("a", 33)} {
		expectAlter(t, s, name, 0, 1, false)
	}
	expectGot(t, s, "a", "abc")
	expectAlter(t, s, "a", 0, 'a'^'x', true)
	expectGot(t, s, "a", "xbc")
	expectAlter(t, s, "a", 2, 'c'^'z', true)
	expectGot(t, s, "a", "xbz")
	expectAlter(t, s, "a", 1, 255, true)
	expectGot(t, s, "a", "x\x9dz")
	// Twice the same is as it was.
	expectAlter(t, s, "a", 1, 255, true)
	expectGot(t, s, "a", "xbz")
	expectGot(t, s, "b", "abc")
	expectPut(t, s, "a", "abc", nil)
	expectGot(t, s, "a", "abc")
	if s.Used() != 6 {
		t.Error(s.Used())
	}
}

func TestAlterOfEachBit(t *testing.T) { // P6.3
	s := made(t, 100)
	b := []byte("tankard")
	expectPut(t, s, "a", string(b), nil)
	for at := range b {
		for x := 1; x < 256; x++ {
			expectAlter(t, s, "a", at, byte(x), true)
			b[at] ^= byte(x)
			expectGot(t, s, "a", string(b))
		}
	}
}

func TestNothingHandedInIsChangedOrKept(t *testing.T) { // P6.4
	s := made(t, 100)
	whole := []byte("abcdef")
	if err := s.Put("a", whole[:3]); err != nil {
		t.Fatal(err)
	}
	expectAlter(t, s, "a", 0, 1, true)
	if string(whole) != "abcdef" {
		t.Errorf("Put's bytes are %q", whole)
	}
	copy(whole, "xyzxyz")
	expectGot(t, s, "a", "`bc")
	// One list for two names: each has bytes of its own.
	if s.Put("b", whole) != nil || s.Put("c", whole) != nil {
		t.Fatal("not put")
	}
	expectAlter(t, s, "b", 0, 1, true)
	expectGot(t, s, "c", "xyzxyz")
}

func TestWhatIsToldIsNewMemory(t *testing.T) { // P6.4
	s := made(t, 100)
	expectPut(t, s, "a", "abc", nil)
	expectPut(t, s, "b", "abc", nil)
	one, _ := s.Get("a")
	two, _ := s.Get("a")
	for i := range one {
		one[i] = 'x'
	}
	_ = append(one[:1], "yyyyyy"...)
	expectGot(t, s, "a", "abc")
	expectAlter(t, s, "a", 0, 1, true)
	if string(two) != "abc" {
		t.Errorf("an altered object is seen in what was told: %q", two)
	}
	l, _ := s.List("")
	l[0], l[1] = "x", "y"
	expectList(t, s, "", "a", "b")
	// What was got may be put, under another name or its own.
	if s.Put("c", two) != nil || s.Put("a", two) != nil {
		t.Fatal("not put")
	}
	two[0] = 'z'
	expectGot(t, s, "a", "abc")
	expectGot(t, s, "c", "abc")
}

func TestNamesAreNewMemory(t *testing.T) { // P6.4
	s := made(t, 100)
	name := strings.Clone("b/1")
	expectPut(t, s, name, "abc", nil)
	expectPut(t, s, name, "def", nil)
	one, _ := s.List("")
	two, _ := s.List("")
	for _, other := range []string{name, two[0]} {
		if unsafe.StringData(one[0]) == unsafe.StringData(other) {
			t.Error("a name that is told shares memory")
		}
	}
	// A name whose bytes change, as a part of a buffer may.
	buffer := []byte("name")
	s.Put(unsafe.String(&buffer[0], len(buffer)), []byte("x"))
	copy(buffer, "game")
	expectList(t, s, "", "b/1", "name")
	expectGot(t, s, "name", "x")
}

func TestWhatFailsChangesNothing(t *testing.T) { // P6.5
	s, m := made(t, 20), &model{room: 20}
	for _, o := range []object{{"a", []byte("abc")}, {"b/1", []byte("defg")}, {"b/2", nil}, {"full", []byte("0123456789")}} {
		if s.Put(o.name, o.b) != m.put(o.name, o.b) {
			t.Fatal("not put")
		}
	}
	large := make([]byte, 15)
	for _, call := range []struct{ real, model func() error }{
		{func() error { return s.Put("a", large) }, func() error { return m.put("a", large) }},
		{func() error { return s.Put("new", large) }, func() error { return m.put("new", large) }},
		{func() error { return s.Put("New", nil) }, func() error { return m.put("New", nil) }},
		{func() error { return s.Delete("b/") }, func() error { return m.delete("b/") }},
		{func() error { _, err := s.Get("b/"); return err }, func() error { _, err := m.get("b/"); return err }},
	} {
		if got, want := call.real(), call.model(); got != want || got == nil {
			t.Errorf("%v; want %v", got, want)
		}
		expectHas(t, s, m)
		s.Fail(0)
		m.fail(0)
		if got, want := call.real(), call.model(); got != want || got != api.ErrFail {
			t.Errorf("%v; want %v", got, want)
		}
		expectHas(t, s, m)
	}
}

// walk does what the bytes of x say, on a store and on the model, and holds
// them against each other.
func walk(t testing.TB, x []byte) {
	t.Helper()
	take := func() int {
		if len(x) == 0 {
			return 0
		}
		n := int(x[0])
		x = x[1:]
		return n
	}
	known := []string{"a", "b", "a/1", "a/2", "a/10", "a-", "b/1", "0", "z", "", "A", strings.Repeat("a", 32), strings.Repeat("a", 33)}
	room := 1 + take()
	s, m := made(t, room), &model{room: room}
	for len(x) > 0 {
		kind, name := take()%8, known[take()%len(known)]
		switch kind {
		case 0, 1, 2:
			b := bytes.Repeat([]byte{byte(take())}, take()/2)
			if got, want := s.Put(name, b), m.put(name, b); got != want {
				t.Fatalf("Put(%q, %d bytes): %v; want %v", name, len(b), got, want)
			}
		case 3:
			got, err := s.Get(name)
			if want, wantErr := m.get(name); err != wantErr || !bytes.Equal(got, want) {
				t.Fatalf("Get(%q): %q, %v; want %q, %v", name, got, err, want, wantErr)
			}
		case 4:
			got, err := s.List(name)
			if want, wantErr := m.list(name); err != wantErr || !slices.Equal(got, want) {
				t.Fatalf("List(%q): %q, %v; want %q, %v", name, got, err, want, wantErr)
			}
		case 5:
			if got, want := s.Delete(name), m.delete(name); got != want {
				t.Fatalf("Delete(%q): %v; want %v", name, got, want)
			}
		case 6:
			n := take()%8 - 2
			s.Fail(n)
			m.fail(n)
		case 7:
			at, y := take()-1, byte(take())
			if got, want := s.Alter(name, at, y), m.alter(name, at, y); got != want {
				t.Fatalf("Alter(%q, %d, %d): %v; want %v", name, at, y, got, want)
			}
		}
		if s.Calls() != m.calls || s.Used() != m.used() {
			t.Fatalf("%d calls, %d bytes; want %d, %d", s.Calls(), s.Used(), m.calls, m.used())
		}
	}
	s.Fail(-1)
	m.fail(-1)
	expectHas(t, s, m)
}

func TestRandomCalls(t *testing.T) { // P6.1 to P6.5
	r := rand.New(rand.NewSource(66))
	for range 500 {
		x := make([]byte, r.Intn(1000))
		r.Read(x)
		walk(t, x)
	}
}

func TestNoCallPanics(t *testing.T) { // P1
	numbers := []int{math.MinInt, -1, 0, 1, 2, maxRoom, math.MaxInt}
	texts := append(notNames(), names()...)
	for _, n := range numbers {
		if s, err := store.New(n); err == nil {
			s.Fail(n)
		}
	}
	s := made(t, 3)
	for _, text := range texts {
		for _, b := range [][]byte{nil, {}, {1}, {1, 2, 3}, {1, 2, 3, 4}} {
			for _, n := range numbers {
				s.Fail(n)
				s.Put(text, b)
				s.Alter(text, n, byte(n))
				s.Get(text)
				s.List(text)
				s.Delete(text)
			}
		}
	}
}

func FuzzCalls(f *testing.F) {
	f.Add([]byte{5, 0, 0, 97, 6, 0, 1, 98, 4, 6, 0, 2, 4, 9})
	f.Add([]byte{255, 0, 2, 1, 200, 7, 2, 1, 1, 3, 2, 5, 2, 6, 0, 3, 4, 9, 4, 9})
	f.Fuzz(func(t *testing.T, x []byte) { walk(t, x) })
}
