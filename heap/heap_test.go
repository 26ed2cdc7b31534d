package heap_test

import (
	"math"
	"math/rand"
	"runtime"
	"slices"
	"strings"
	"testing"
	"weak"

	"tankard/heap"
)

// card is one of many that may be alike: less goes by its key alone.
type card struct {
	key  int
	name int
}

func byKey(a, b card) bool { return a.key < b.key }

func smaller(a, b int) bool { return a < b }

// cards are named by their places, so that alike ones are told apart.
func cards(keys ...int) []card {
	l := make([]card, len(keys))
	for i, key := range keys {
		l[i] = card{key, i + 1}
	}
	return l
}

// place is where the one stands that the chapter says is popped, of those that were
// pushed in this order: it is held against all others.
func place(l []card) int {
	for i, x := range l {
		if !slices.ContainsFunc(l, func(y card) bool { return byKey(y, x) }) {
			return i
		}
	}
	return -1
}

// popped is what the chapter says that all these are popped as.
func popped(l []card) []card {
	l = slices.Clone(l)
	var out []card
	for len(l) > 0 {
		i := place(l)
		out = append(out, l[i])
		l = slices.Delete(l, i, i+1)
	}
	return out
}

func expectEmpty[T comparable](t testing.TB, h *heap.Heap[T]) {
	t.Helper()
	var none T
	for range 2 {
		if n := h.Len(); n != 0 {
			t.Errorf("Len: %d; want 0", n)
		}
		if x, ok := h.Peek(); ok || x != none {
			t.Errorf("Peek of none: %v, %v; want %v, false", x, ok, none)
		}
		if x, ok := h.Pop(); ok || x != none {
			t.Errorf("Pop of none: %v, %v; want %v, false", x, ok, none)
		}
	}
}

// expectPop holds that this one is next, and that it stays till it is popped.
func expectPop[T comparable](t testing.TB, h *heap.Heap[T], want T) {
	t.Helper()
	n := h.Len()
	for range 2 {
		if x, ok := h.Peek(); !ok || x != want {
			t.Errorf("Peek: %v, %v; want %v, true", x, ok, want)
		}
		if h.Len() != n {
			t.Errorf("Len behind a Peek: %d; want %d", h.Len(), n)
		}
	}
	if x, ok := h.Pop(); !ok || x != want {
		t.Errorf("Pop: %v, %v; want %v, true", x, ok, want)
	}
	if h.Len() != n-1 {
		t.Errorf("Len behind a Pop: %d; want %d", h.Len(), n-1)
	}
}

// expectAll holds that just these are popped, in this order.
func expectAll[T comparable](t testing.TB, h *heap.Heap[T], want ...T) {
	t.Helper()
	if h.Len() != len(want) {
		t.Errorf("Len: %d; want %d", h.Len(), len(want))
	}
	for _, x := range want {
		if t.Failed() {
			return
		}
		expectPop(t, h, x)
	}
	expectEmpty(t, h)
}

func push[T any](h *heap.Heap[T], l ...T) {
	for _, x := range l {
		h.Push(x)
	}
}

// rows calls f with each row of up to most numbers from 0 to kinds-1.
func rows(kinds, most int, f func(l []int)) {
	var grow func(l []int)
	grow = func(l []int) {
		f(l)
		for x := 0; x < kinds && len(l) < most; x++ {
			grow(append(slices.Clone(l), x))
		}
	}
	grow(nil)
}

func TestTheExample(t *testing.T) { // P9.2
	h := heap.New(smaller)
	push(h, 3, 1, 2)
	expectAll(t, h, 1, 2, 3)
}

func TestNewIsEmpty(t *testing.T) { // P9.1
	expectEmpty(t, heap.New(smaller))
	expectEmpty(t, heap.New(byKey))
	expectEmpty(t, heap.New(func(a, b string) bool { return a < b }))
	expectEmpty(t, heap.New(func(a, b *card) bool { return a.key < b.key }))
	expectEmpty(t, heap.New(func(a, b [3]float64) bool { return a[0] < b[0] }))
	expectEmpty(t, heap.New(func(a, b any) bool { return false }))
}

func TestOneAlone(t *testing.T) { // P9.1
	for _, x := range []int{0, 1, -1, math.MinInt, math.MaxInt} {
		h := heap.New(smaller)
		h.Push(x)
		if h.Len() != 1 {
			t.Errorf("Len: %d; want 1", h.Len())
		}
		expectAll(t, h, x)
	}
}

func TestLenTellsHowManyThereAre(t *testing.T) { // P9.1
	h := heap.New(smaller)
	for n := range 100 {
		if h.Len() != n {
			t.Errorf("Len: %d; want %d", h.Len(), n)
		}
		h.Push(7)
	}
	for n := 100; n > 0; n-- {
		if h.Len() != n {
			t.Errorf("Len: %d; want %d", h.Len(), n)
		}
		h.Pop()
	}
	expectEmpty(t, h)
}

func TestPeekAsEachIsPushed(t *testing.T) { // P9.1
	rows(4, 6, func(keys []int) {
		h := heap.New(byKey)
		l := cards(keys...)
		for i, x := range l {
			h.Push(x)
			want := popped(l[:i+1])[0]
			if got, ok := h.Peek(); !ok || got != want || h.Len() != i+1 {
				t.Fatalf("Peek of %v: %v, %v; want %v", l[:i+1], got, ok, want)
			}
		}
	})
}

func TestAllIsPoppedByRisingOrder(t *testing.T) { // P9.2
	rows(4, 7, func(keys []int) {
		h := heap.New(byKey)
		l := cards(keys...)
		push(h, l...)
		if expectAll(t, h, popped(l)...); t.Failed() {
			t.Fatalf("of %v", l)
		}
	})
}

func TestAlikeOnesTheFirstOneFirst(t *testing.T) { // P9.1, P9.2
	for n := range 70 {
		h := heap.New(byKey)
		l := cards(make([]int, n)...)
		push(h, l...)
		expectAll(t, h, l...)
	}
	// Also where one of another kind is among them, wherever it is.
	for n := range 20 {
		for at := range n {
			for _, key := range []int{-1, 1} {
				keys := make([]int, n)
				keys[at] = key
				h := heap.New(byKey)
				push(h, cards(keys...)...)
				expectAll(t, h, popped(cards(keys...))...)
			}
		}
	}
}

func TestAlikeOnesBehindPops(t *testing.T) { // P9.1
	// What is pushed later stands behind what is there, however often that moved.
	for n := 1; n < 40; n++ {
		h := heap.New(byKey)
		l := cards(make([]int, 5*n)...)
		push(h, l[:n]...)
		for i := range 4 * n {
			expectPop(t, h, l[i])
			h.Push(l[n+i])
		}
		expectAll(t, h, l[4*n:]...)
	}
}

func TestPushesAmongPops(t *testing.T) { // P9.1
	// 0 pops; others push one with that key.
	rows(4, 8, func(calls []int) {
		h := heap.New(byKey)
		var l []card
		for i, call := range calls {
			if call > 0 {
				x := card{call, i}
				l = append(l, x)
				h.Push(x)
				continue
			}
			if len(l) == 0 {
				expectEmpty(t, h)
				continue
			}
			at := place(l)
			expectPop(t, h, l[at])
			l = slices.Delete(l, at, at+1)
		}
		if expectAll(t, h, popped(l)...); t.Failed() {
			t.Fatalf("by %v", calls)
		}
	})
}

func TestBehindTheLastOne(t *testing.T) { // P9.1
	h := heap.New(byKey)
	for range 5 {
		l := cards(3, 1, 2, 1, 3, 0)
		push(h, l...)
		expectAll(t, h, popped(l)...)
	}
}

func TestTheSameOneTwice(t *testing.T) { // P9.1
	h := heap.New(smaller)
	push(h, 2, 1, 2, 1, 2)
	expectAll(t, h, 1, 1, 2, 2, 2)
	one := &card{1, 1}
	p := heap.New(func(a, b *card) bool { return a.key < b.key })
	push(p, one, one)
	expectAll(t, p, one, one)
}

func TestZerosAreInItToo(t *testing.T) { // P9.1
	h := heap.New(smaller)
	push(h, 0, -1, 0, 1)
	expectAll(t, h, -1, 0, 0, 1)
	p := heap.New(func(a, b *card) bool { return false })
	x := &card{}
	push(p, nil, x, nil)
	expectAll(t, p, nil, x, nil)
}

func TestLessTellsTheOrder(t *testing.T) { // P9.1
	down := heap.New(func(a, b int) bool { return a > b })
	push(down, 3, 1, 2, math.MinInt, math.MaxInt)
	expectAll(t, down, math.MaxInt, 3, 2, 1, math.MinInt)

	long := heap.New(func(a, b string) bool { return len(a) < len(b) })
	push(long, "ccc", "bb", "a", "aa", "", "c", "aaa")
	expectAll(t, long, "", "a", "c", "bb", "aa", "ccc", "aaa")

	both := heap.New(func(a, b card) bool { return a.key < b.key || a.key == b.key && a.name > b.name })
	push(both, cards(1, 0, 1, 0)...)
	expectAll(t, both, card{0, 4}, card{0, 2}, card{1, 3}, card{1, 1})

	// A less that keeps what it goes by elsewhere.
	ages := map[string]int{"a": 3, "b": 1, "c": 2}
	by := heap.New(func(a, b string) bool { return ages[a] < ages[b] })
	push(by, "a", "b", "c")
	expectAll(t, by, "b", "c", "a")
}

func TestOfWhatCannotBeCompared(t *testing.T) { // P9.1
	h := heap.New(func(a, b []int) bool { return a[0] < b[0] })
	push(h, []int{2}, []int{1, 5}, []int{1, 4})
	for _, want := range [][]int{{1, 5}, {1, 4}, {2}} {
		if x, ok := h.Pop(); !ok || !slices.Equal(x, want) {
			t.Errorf("Pop: %v, %v; want %v", x, ok, want)
		}
	}
	if x, ok := h.Pop(); ok || x != nil {
		t.Errorf("Pop of none: %v, %v", x, ok)
	}
	f := heap.New(func(a, b func() int) bool { return a() < b() })
	push(f, func() int { return 2 }, func() int { return 1 })
	if x, ok := f.Pop(); !ok || x() != 1 {
		t.Error(ok)
	}
	f.Pop()
	if x, ok := f.Peek(); ok || x != nil {
		t.Error(ok)
	}
}

func TestHeapsAreApart(t *testing.T) { // P9.1
	up, down := heap.New(smaller), heap.New(func(a, b int) bool { return a > b })
	again := heap.New(smaller)
	for _, x := range []int{2, 3, 1} {
		push(up, x)
		push(down, x, x)
	}
	expectEmpty(t, again)
	expectPop(t, up, 1)
	push(again, 5)
	expectAll(t, down, 3, 3, 2, 2, 1, 1)
	expectAll(t, up, 2, 3)
	expectAll(t, again, 5)
}

func TestLessIsAskedOfWhatWasPushedAlone(t *testing.T) { // P9.1
	h := heap.New(func(a, b *card) bool { return a.key < b.key })
	r := rand.New(rand.NewSource(91))
	for range 2000 {
		if r.Intn(5) < 3 {
			h.Push(&card{key: r.Intn(10)})
		} else {
			h.Pop()
		}
	}
}

func TestNothingHandedInIsChanged(t *testing.T) { // R2
	l := make([]*card, 50)
	h := heap.New(func(a, b *card) bool { return a.key < b.key })
	for i := range l {
		l[i] = &card{i * 7 % 5, i}
	}
	push(h, l...)
	for range l {
		h.Pop()
	}
	for i, x := range l {
		if *x != (card{i * 7 % 5, i}) {
			t.Errorf("%d is %v", i, *x)
		}
	}
}

// fillAndPop leaves the last of n cards in a heap, and tells the popped ones.
func fillAndPop(h *heap.Heap[*card], n int) []weak.Pointer[card] {
	var gone []weak.Pointer[card]
	for i := range n {
		h.Push(&card{key: i})
	}
	for range n - 1 {
		x, _ := h.Pop()
		gone = append(gone, weak.Make(x))
	}
	return gone
}

func TestWhatWasPoppedIsNotKept(t *testing.T) { // it isn't in it any more: P9.1
	h := heap.New(func(a, b *card) bool { return a.key < b.key })
	gone := fillAndPop(h, 100)
	kept := len(gone)
	for i := 0; i < 10 && kept > 0; i++ {
		runtime.GC()
		kept = 0
		for _, x := range gone {
			if x.Value() != nil {
				kept++
			}
		}
	}
	if kept > 0 {
		t.Errorf("%d of %d are kept", kept, len(gone))
	}
	if x, ok := h.Pop(); !ok || x.key != 99 {
		t.Errorf("Pop: %v, %v", x, ok)
	}
}

// expectSorted holds that many are popped as a sort, that leaves alike ones as they
// stand, tells them.
func expectSorted(t *testing.T, keys ...int) {
	t.Helper()
	l := cards(keys...)
	h := heap.New(byKey)
	push(h, l...)
	slices.SortStableFunc(l, func(a, b card) int { return a.key - b.key })
	for i, want := range l {
		if x, ok := h.Pop(); !ok || x != want {
			t.Fatalf("of %d, at %d: %v, %v; want %v", len(l), i, x, ok, want)
		}
	}
	expectEmpty(t, h)
}

func TestMany(t *testing.T) { // P9.2
	r := rand.New(rand.NewSource(92))
	for _, n := range []int{1000, 1023, 1024, 1025, 100000} {
		for _, key := range []func(i int) int{
			func(i int) int { return i },
			func(i int) int { return -i },
			func(i int) int { return 0 },
			func(i int) int { return i % 2 },
			func(i int) int { return i % 100 },
			func(i int) int { return -i / 50 },
			func(i int) int { return min(i, n-i) },
			func(i int) int { return r.Intn(20) },
			func(i int) int { return r.Intn(1 << 30) },
		} {
			keys := make([]int, n)
			for i := range keys {
				keys[i] = key(i)
			}
			expectSorted(t, keys...)
		}
	}
}

// walk does what the bytes of y say, on a heap and on what it should have, and
// holds them against each other.
func walk(t testing.TB, y []byte) {
	t.Helper()
	h := heap.New(byKey)
	var l []card
	for i, b := range y {
		if b%8 < 5 {
			x := card{int(b) / 8 % 9, i}
			l = append(l, x)
			h.Push(x)
		} else if len(l) > 0 {
			at := place(l)
			expectPop(t, h, l[at])
			l = slices.Delete(l, at, at+1)
		} else {
			expectEmpty(t, h)
		}
		if h.Len() != len(l) {
			t.Errorf("Len: %d; want %d", h.Len(), len(l))
		}
		if t.Failed() {
			return
		}
	}
	expectAll(t, h, popped(l)...)
}

func TestRandomCalls(t *testing.T) { // P9.1, P9.2
	r := rand.New(rand.NewSource(93))
	for range 1000 {
		y := make([]byte, r.Intn(300))
		r.Read(y)
		if walk(t, y); t.Failed() {
			t.Fatalf("by %v", y)
		}
	}
}

// calls makes many calls of a heap, and holds that it goes on as long as there is
// one in it.
func calls(t *testing.T, h *heap.Heap[float64], r *rand.Rand) {
	t.Helper()
	for range 3 {
		for range 100 {
			h.Push([]float64{0, 1, -1, math.NaN(), math.Inf(1), r.Float64()}[r.Intn(6)])
			h.Peek()
			if r.Intn(3) == 0 {
				h.Pop()
			}
		}
		for h.Len() > 0 {
			n := h.Len()
			if _, ok := h.Pop(); !ok || h.Len() >= n {
				t.Fatal("it doesn't end")
			}
		}
		h.Peek()
		h.Pop()
	}
}

func TestNoCallPanics(t *testing.T) { // P1
	r := rand.New(rand.NewSource(94))
	turn := 0
	for _, less := range []func(a, b float64) bool{
		func(a, b float64) bool { return a < b }, // of what is no number, too
		func(a, b float64) bool { return a <= b },
		func(a, b float64) bool { return a != b },
		func(a, b float64) bool { return true },
		func(a, b float64) bool { return false },
		func(a, b float64) bool { return r.Intn(2) == 0 },
		func(a, b float64) bool { turn++; return turn%3 == 0 },
	} {
		calls(t, heap.New(less), r)
	}
}

func TestNoCallPanicsWhoseLessCallsTheHeap(t *testing.T) { // P1
	r := rand.New(rand.NewSource(95))
	for range 200 {
		var h *heap.Heap[float64]
		left, within := 0, false
		h = heap.New(func(a, b float64) bool {
			if within || left == 0 {
				return a < b
			}
			within = true
			left--
			for range r.Intn(4) {
				switch r.Intn(4) {
				case 0:
					h.Push(r.Float64())
				case 1:
					h.Peek()
				default:
					h.Pop()
				}
			}
			within = false
			return a < b
		})
		for range 20 {
			left = 5
			for range 20 {
				h.Push(r.Float64())
			}
			left = 5
			for range 10 {
				h.Pop()
			}
		}
		for i := 0; i < 10000 && h.Len() > 0; i++ {
			h.Pop()
		}
		if h.Len() != 0 {
			t.Fatalf("%d are in it yet", h.Len())
		}
	}
}

func FuzzCalls(f *testing.F) {
	f.Add([]byte{0, 8, 16, 8, 7, 7, 0, 7, 7, 7, 7})
	f.Add([]byte(strings.Repeat("\x10\x00\x08\x10\x07", 20)))
	f.Fuzz(func(t *testing.T, y []byte) { walk(t, y) })
}
