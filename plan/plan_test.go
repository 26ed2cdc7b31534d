package plan_test

import (
	"encoding/binary"
	"math"
	"math/big"
	"math/rand"
	"slices"
	"testing"

	"tankard/api"
	"tankard/plan"
)

const (
	maxTime  = 1 << 40
	maxLevel = 10
)

// at is a meta of that level, and End.
func at(id uint64, level int, end int64) api.Meta {
	return api.Meta{Id: id, Level: level, End: end}
}

// ended are metas of level 0, by rising Ids, with these Ends.
func ended(ends ...int64) []api.Meta {
	var l []api.Meta
	for i, end := range ends {
		l = append(l, at(uint64(i)+1, 0, end))
	}
	return l
}

// alike are so many metas of one level, and one window.
func alike(n, level int) []api.Meta {
	var l []api.Meta
	for i := range n {
		l = append(l, at(uint64(i)+1, level, 7))
	}
	return l
}

// full has something in each field, so that all of it has to be told.
func full(id uint64) api.Meta {
	return api.Meta{Id: id, Level: 3, Start: int64(id) + 5, End: int64(id) + 90, Pages: int(id) + 1, Traces: int(id) + 2}
}

// picked are those of these Ids, in order.
func picked(l []api.Meta, ids ...uint64) []api.Meta {
	var out []api.Meta
	for _, m := range l {
		if slices.Contains(ids, m.Id) {
			out = append(out, m)
		}
	}
	return out
}

// whole is a number as an integer that isn't bounded.
func whole(n int64) *big.Int { return big.NewInt(n) }

// window is an End divided, cut off toward 0.
func window(end, long int64) *big.Int { return new(big.Int).Quo(whole(end), whole(long)) }

// rises tells it of any two metas.
func rises(l []api.Meta) bool {
	for i := range l {
		for j := range i {
			if l[j].Id >= l[i].Id {
				return false
			}
		}
	}
	return true
}

// grouped is the chapter's first group, worked out from one meta after the other
// without places that are counted.
func grouped(l []api.Meta, long int64, most int) ([]api.Meta, error) {
	if long < 1 || long > maxTime || most < 2 || most > 8 || !rises(l) {
		return nil, api.ErrArg
	}
	var best []api.Meta
	for _, one := range l {
		if one.Level >= maxLevel {
			continue
		}
		var g []api.Meta
		for _, m := range l {
			if m.Level == one.Level && window(m.End, long).Cmp(window(one.End, long)) == 0 {
				g = append(g, m)
			}
		}
		if len(g) >= 2 && (best == nil || isLower(one, best[0], long)) {
			best = g
		}
	}
	return best[:min(len(best), most)], nil
}

func isLower(a, b api.Meta, long int64) bool {
	if a.Level != b.Level {
		return a.Level < b.Level
	}
	return window(a.End, long).Cmp(window(b.End, long)) < 0
}

// gone is what has run out, by sums that 64 bits needn't hold.
func gone(l []api.Meta, now, retention int64) ([]api.Meta, error) {
	for _, n := range []int64{now, retention} {
		if n < 0 || n > maxTime {
			return nil, api.ErrArg
		}
	}
	var out []api.Meta
	for _, m := range l {
		if new(big.Int).Add(whole(m.End), whole(retention)).Cmp(whole(now)) <= 0 {
			out = append(out, m)
		}
	}
	return out, nil
}

func expectGroup(t testing.TB, l []api.Meta, long int64, most int, want []api.Meta) {
	t.Helper()
	g, err := plan.Group(l, long, most)
	if err != nil || !slices.Equal(g, want) {
		t.Errorf("Group(%v, %d, %d): %v, %v; want %v", l, long, most, g, err, want)
	}
}

func expectNoGroup(t testing.TB, l []api.Meta, long int64, most int) {
	t.Helper()
	g, err := plan.Group(l, long, most)
	if err != error(api.ErrArg) || len(g) > 0 {
		t.Errorf("Group(%v, %d, %d): %v, %v; want ErrArg", l, long, most, g, err)
	}
}

func expectOut(t testing.TB, l []api.Meta, now, retention int64, want []api.Meta) {
	t.Helper()
	o, err := plan.Out(l, now, retention)
	if err != nil || !slices.Equal(o, want) {
		t.Errorf("Out(%v, %d, %d): %v, %v; want %v", l, now, retention, o, err, want)
	}
}

func expectNoOut(t testing.TB, l []api.Meta, now, retention int64) {
	t.Helper()
	o, err := plan.Out(l, now, retention)
	if err != error(api.ErrArg) || len(o) > 0 {
		t.Errorf("Out(%v, %d, %d): %v, %v; want ErrArg", l, now, retention, o, err)
	}
}

func expectMerged(t testing.TB, l []api.Meta, level int, start, end int64) {
	t.Helper()
	if n, s, e := plan.Merged(l); n != level || s != start || e != end {
		t.Errorf("Merged(%v): %d, %d, %d; want %d, %d, %d", l, n, s, e, level, start, end)
	}
}

func TestExample(t *testing.T) { // P19.1
	l := ended(3, 7)
	expectGroup(t, l, 10, 2, l)
}

func TestGroupOfFew(t *testing.T) { // P19.1
	for _, most := range []int{2, 3, 8} {
		expectGroup(t, nil, 10, most, nil)
		expectGroup(t, []api.Meta{}, 10, most, nil)
		expectGroup(t, alike(1, 0), 10, most, nil)
		expectGroup(t, alike(2, 0), 10, most, alike(2, 0))
		// No two have both level and window.
		expectGroup(t, []api.Meta{at(1, 0, 5), at(2, 1, 5), at(3, 0, 15), at(4, 2, 5)}, 10, most, nil)
	}
}

func TestGroupTellsAllOfAMeta(t *testing.T) { // P19.1
	l := []api.Meta{full(4), full(6), full(9)}
	expectGroup(t, l, 1000, 2, l[:2])
	expectGroup(t, l, 1000, 3, l)
}

func TestGroupTellsTheFirstOnes(t *testing.T) { // P19.1
	for n := range 12 {
		l := alike(n, 4)
		for most := 2; most <= 8; most++ {
			want := l[:min(n, most)]
			if n < 2 {
				want = nil
			}
			expectGroup(t, l, 100, most, want)
		}
	}
	// Others lie between them, and one ahead.
	l := ended(45, 3, 18, 4, 5, 17, 6)
	expectGroup(t, l, 10, 2, picked(l, 2, 4))
	expectGroup(t, l, 10, 3, picked(l, 2, 4, 5))
	expectGroup(t, l, 10, 8, picked(l, 2, 4, 5, 7))
	// By Id, and not by End.
	l = ended(9, 8, 7, 6)
	expectGroup(t, l, 10, 2, picked(l, 1, 2))
}

func TestGroupOfTheLowestLevel(t *testing.T) { // P19.1
	l := []api.Meta{at(1, 1, 5), at(2, 1, 6), at(3, 0, 95), at(4, 0, 96)}
	expectGroup(t, l, 10, 8, picked(l, 3, 4))
	// The lowest level has but one of each window.
	l = []api.Meta{at(1, 0, 5), at(2, 0, 15), at(3, 2, 25), at(4, 2, 26), at(5, 1, 95), at(6, 1, 96)}
	expectGroup(t, l, 10, 8, picked(l, 5, 6))
	// However many a higher one has, and how low their window is.
	l = []api.Meta{at(1, 7, 0), at(2, 7, 0), at(3, 7, 0), at(4, 6, maxTime), at(5, 6, maxTime)}
	expectGroup(t, l, 10, 8, picked(l, 4, 5))
	for level := range maxLevel - 1 {
		l := append(alike(2, level+1), at(8, level, maxTime), at(9, level, maxTime))
		expectGroup(t, l, 10, 8, picked(l, 8, 9))
	}
}

func TestGroupOfTheLowestWindow(t *testing.T) { // P19.1
	l := ended(25, 26, 15, 16, 5)
	expectGroup(t, l, 10, 8, picked(l, 3, 4))
	l = ended(95, 96, 97, 15, 16)
	expectGroup(t, l, 10, 8, picked(l, 4, 5))
	l = ended(95, 0, 96, 9)
	expectGroup(t, l, 10, 8, picked(l, 2, 4))
	// As numbers, and not as texts.
	l = ended(100, 100, 20, 20)
	expectGroup(t, l, 10, 8, picked(l, 3, 4))
}

func TestGroupBelowTheGreatestLevel(t *testing.T) { // P19.1
	for level := range maxLevel {
		expectGroup(t, alike(3, level), 10, 8, alike(3, level))
	}
	for _, level := range []int{maxLevel, maxLevel + 1, 1000, math.MaxInt} {
		expectGroup(t, alike(3, level), 10, 8, nil)
		// They don't stand in others' way.
		l := append(alike(3, level), at(8, 9, 95), at(9, 9, 96))
		expectGroup(t, l, 10, 8, picked(l, 8, 9))
	}
}

func TestWindows(t *testing.T) { // P19.1
	for _, c := range []struct {
		a, b, long int64
		one        bool
	}{
		{0, 9, 10, true},
		{9, 10, 10, false},
		{10, 19, 10, true},
		{19, 20, 10, false},
		{0, 0, 1, true},
		{0, 1, 1, false},
		{7, 7, 1, true},
		{7, 8, 1, false},
		{0, maxTime - 1, maxTime, true},
		{maxTime - 1, maxTime, maxTime, false},
		{maxTime, maxTime, maxTime, true},
		{0, maxTime - 2, maxTime - 1, true},
		{maxTime - 2, maxTime - 1, maxTime - 1, false},
		{maxTime - 1, maxTime, maxTime - 1, true},
		{maxTime, maxTime, 1, true},
		{maxTime - 1, maxTime, 1, false},
		{1<<32 + 5, 5, 1 << 20, false},
	} {
		for _, l := range [][]api.Meta{ended(c.a, c.b), ended(c.b, c.a)} {
			want := l
			if !c.one {
				want = nil
			}
			expectGroup(t, l, c.long, 8, want)
		}
	}
}

func TestGroupOfMetasThatMayNotBe(t *testing.T) { // P19.1, P1
	// Cut off toward 0 those from -9 to 9 have one window, and lower ones lie below.
	l := ended(-9, 9)
	expectGroup(t, l, 10, 8, l)
	l = ended(9, -1, 10, -10)
	expectGroup(t, l, 10, 8, picked(l, 1, 2))
	l = ended(3, 4, -10, -19, -20)
	expectGroup(t, l, 10, 8, picked(l, 3, 4))
	l = ended(math.MinInt64, math.MaxInt64, math.MinInt64, math.MaxInt64)
	expectGroup(t, l, 1, 8, picked(l, 1, 3))
	expectGroup(t, l, maxTime, 8, picked(l, 1, 3))
	l = ended(math.MinInt64, math.MinInt64+1, math.MaxInt64-1, math.MaxInt64)
	expectGroup(t, l, 1, 8, nil)
	// Levels below 0 are lower ones.
	l = []api.Meta{at(1, 0, 5), at(2, 0, 5), at(3, -1, 5), at(4, -1, 5)}
	expectGroup(t, l, 10, 8, picked(l, 3, 4))
	l = []api.Meta{at(1, -1, 5), at(2, -1, 5), at(3, math.MinInt, 5), at(4, math.MinInt, 5)}
	expectGroup(t, l, 10, 8, picked(l, 3, 4))
	// An Id of 0 is lower than any, and a Start above the End counts for nothing.
	l = []api.Meta{{Id: 0, Start: 9, End: 5}, {Id: 1, Start: -1, End: 5}, {Id: math.MaxUint64, Pages: -1, Traces: -1}}
	expectGroup(t, l, 10, 8, l)
}

func TestGroupAsksHowLongWindowsAre(t *testing.T) { // P19.1
	l := ended(3, 7)
	for _, long := range []int64{math.MinInt64, math.MinInt64 + 1, -maxTime, -10, -1, 0, maxTime + 1, maxTime + 2, 1 << 41, math.MaxInt64} {
		for _, l := range [][]api.Meta{nil, l, l[:1]} {
			expectNoGroup(t, l, long, 2)
			expectNoGroup(t, l, long, 8)
		}
	}
	for _, long := range []int64{8, 9, maxTime - 1, maxTime} {
		expectGroup(t, l, long, 2, l)
	}
	for _, long := range []int64{1, 2, 3, 4} {
		expectGroup(t, l, long, 2, nil)
	}
}

func TestGroupAsksHowManyMayBeMerged(t *testing.T) { // P19.1
	l := ended(3, 7)
	for _, most := range []int{math.MinInt, -8, -2, -1, 0, 1, 9, 10, 16, 1 << 32, 1<<32 + 2, math.MaxInt} {
		for _, l := range [][]api.Meta{nil, l, l[:1]} {
			expectNoGroup(t, l, 10, most)
			expectNoGroup(t, l, 1, most)
			expectNoGroup(t, l, maxTime, most)
		}
	}
	for most := 2; most <= 8; most++ {
		expectGroup(t, l, 10, most, l)
	}
}

func TestGroupOfMetasThatDontRise(t *testing.T) { // P19.1
	all := uint64(math.MaxUint64)
	for _, ids := range [][]uint64{
		{3, 3},
		{8, 3},
		{0, 0},
		{all, all},
		{all, 0},
		{1 << 63, 1<<63 - 1},
		{3, 8, 8},
		{3, 3, 8},
		{3, 8, 7},
		{3, 8, 2, 9},
		{8, 3, 9, 10},
		{1, 2, 3, 4, 5, 6, 7, 8, 9, 9},
	} {
		// The error is told though no two have one level and one window, too.
		var l, apart []api.Meta
		for i, id := range ids {
			l = append(l, at(id, 0, 5))
			apart = append(apart, at(id, i, int64(50*i)))
		}
		expectNoGroup(t, l, 10, 8)
		expectNoGroup(t, apart, 10, 2)
	}
	// Signed Ids wouldn't rise.
	l := []api.Meta{at(0, 0, 5), at(1<<63-1, 0, 5), at(1<<63, 0, 5), at(all, 0, 5)}
	expectGroup(t, l, 10, 8, l)
}

func TestGroupOfManyThatDontRiseSomewhere(t *testing.T) { // P19.1
	for n := 2; n < 60; n++ {
		for k := 1; k < n; k++ {
			l := alike(n, 0)
			l[k].Id = l[k-1].Id
			expectNoGroup(t, l, 10, 2)
		}
	}
}

func TestOut(t *testing.T) { // P19.1
	l := ended(5, 12, 13, 0, 12, 40)
	expectOut(t, l, 30, 18, picked(l, 1, 2, 4, 5))
	expectOut(t, l, 29, 18, picked(l, 1, 4))
	expectOut(t, l, 31, 18, picked(l, 1, 2, 3, 4, 5))
	expectOut(t, l, 30, 17, picked(l, 1, 2, 3, 4, 5))
	expectOut(t, l, 30, 19, picked(l, 1, 4))
	expectOut(t, l, 0, 0, picked(l, 4))
	expectOut(t, l, 5, 5, picked(l, 4))
	expectOut(t, l, 4, 5, nil)
	expectOut(t, l, 40, 0, l)
	expectOut(t, l, 39, 0, picked(l, 1, 2, 3, 4, 5))
	expectOut(t, l, maxTime, 0, l)
	expectOut(t, l, 0, maxTime, nil)
	expectOut(t, l, maxTime, maxTime, picked(l, 4))
	for _, n := range []int64{0, 1, 10, maxTime} {
		expectOut(t, nil, n, n, nil)
		expectOut(t, []api.Meta{}, n, 0, nil)
	}
}

func TestOutAtTheBounds(t *testing.T) { // P19.1
	l := ended(maxTime-1, maxTime, maxTime+1)
	expectOut(t, l, maxTime, 0, l[:2])
	expectOut(t, l, maxTime, 1, l[:1])
	expectOut(t, l, maxTime, 2, nil)
	expectOut(t, l, maxTime-1, 0, l[:1])
	expectOut(t, l, maxTime-1, 1, nil)
}

func TestOutTellsAllOfAMetaInOrder(t *testing.T) { // P19.1
	l := []api.Meta{full(4), full(6), full(9)}
	expectOut(t, l, 1000, 3, l)
	// The order is that of the list, whether or not it rises, and whatever is twice.
	l = []api.Meta{full(9), full(4), full(4), full(0), full(6)}
	expectOut(t, l, 1000, 3, l)
	expectOut(t, l, 99, 3, l[1:])
	expectOut(t, l, 97, 3, l[1:4])
	// Level and Start count for nothing.
	l = []api.Meta{{Id: 1, Level: 99, Start: 900, End: 5}, {Id: 2, Level: -1, Start: -900, End: 6}}
	expectOut(t, l, 10, 5, l[:1])
}

func TestOutOfSumsThatAreGreaterThan64BitsHold(t *testing.T) { // P19.1
	l := ended(math.MaxInt64, 1, math.MaxInt64-1, math.MinInt64, math.MaxInt64-maxTime+1, math.MinInt64+1, -1)
	expectOut(t, l, maxTime, 1, picked(l, 2, 4, 6, 7))
	expectOut(t, l, maxTime, maxTime, picked(l, 4, 6, 7))
	expectOut(t, l, 0, maxTime, picked(l, 4, 6))
	expectOut(t, l, 0, 1, picked(l, 4, 6, 7))
	expectOut(t, l, 0, 0, picked(l, 4, 6, 7))
	expectOut(t, l, maxTime, 0, picked(l, 2, 4, 6, 7))
}

func TestOutAsksItsTimes(t *testing.T) { // P19.1
	l := ended(3, 7)
	for _, n := range []int64{math.MinInt64, -maxTime, -10, -1, maxTime + 1, maxTime + 2, 1 << 41, math.MaxInt64} {
		for _, l := range [][]api.Meta{nil, l} {
			expectNoOut(t, l, n, 0)
			expectNoOut(t, l, n, maxTime)
			expectNoOut(t, l, 0, n)
			expectNoOut(t, l, maxTime, n)
			expectNoOut(t, l, n, n)
		}
	}
}

func TestMerged(t *testing.T) { // P19.2
	expectMerged(t, nil, 0, 0, 0)
	expectMerged(t, []api.Meta{}, 0, 0, 0)
	expectMerged(t, []api.Meta{{}}, 1, 0, 0)
	expectMerged(t, []api.Meta{{Id: 9, Level: 4, Start: 5, End: 8, Pages: 50, Traces: 60}}, 5, 5, 8)
	expectMerged(t, []api.Meta{{Level: 1, Start: 4, End: 5}, {Level: 0, Start: 3, End: 9}}, 2, 3, 9)
	expectMerged(t, []api.Meta{{Level: 0, Start: 3, End: 9}, {Level: 1, Start: 4, End: 5}}, 2, 3, 9)
	expectMerged(t, []api.Meta{{Level: 2, Start: 3, End: 5}, {Level: 2, Start: 3, End: 5}}, 3, 3, 5)
	expectMerged(t, []api.Meta{{Level: maxLevel, Start: maxTime, End: maxTime}}, maxLevel+1, maxTime, maxTime)
	// Each is told of another one, wherever that stands.
	for at := range 5 {
		l := []api.Meta{full(1), full(1), full(1), full(1), full(1)}
		l[at].Level = 8
		l[(at+1)%5].Start = 2
		l[(at+2)%5].End = 300
		expectMerged(t, l, 9, 2, 300)
	}
}

func TestMergedOfMetasThatMayNotBe(t *testing.T) { // P19.2, P1
	// None of them has a 0: they aren't held against it.
	expectMerged(t, []api.Meta{{Level: -3, Start: -9, End: -5}, {Level: -7, Start: -4, End: -8}}, -2, -9, -5)
	expectMerged(t, []api.Meta{{Level: -1, Start: 5, End: -5}}, 0, 5, -5)
	expectMerged(t, []api.Meta{{Level: math.MinInt}}, math.MinInt+1, 0, 0)
	expectMerged(t, []api.Meta{{Level: math.MaxInt - 1, Start: math.MaxInt64, End: math.MinInt64}}, math.MaxInt, math.MaxInt64, math.MinInt64)
	// Behind the greatest level is the least.
	expectMerged(t, []api.Meta{{Level: math.MaxInt64, Start: 1, End: 2}}, math.MinInt64, 1, 2)
	expectMerged(t, []api.Meta{{Level: 5}, {Level: math.MaxInt64}, {Level: math.MinInt64}}, math.MinInt64, 0, 0)
	expectMerged(t, []api.Meta{{Start: math.MinInt64, End: math.MinInt64}, {Start: math.MaxInt64, End: math.MaxInt64}}, 1, math.MinInt64, math.MaxInt64)
}

func TestWhatIsHandedInStays(t *testing.T) { // P19.3
	// There is room behind the list, that is the caller's.
	room := ended(25, 12, 26, 13, 27, 14, 70, 71)
	was := slices.Clone(room)
	l := room[:6]
	plan.Group(l, 10, 2)
	plan.Group(l, 10, 8)
	plan.Group(l, 0, 8)
	plan.Out(l, 30, 16)
	plan.Out(l, 99, 16)
	plan.Out(l, -1, 0)
	plan.Merged(l)
	back := []api.Meta{room[3], room[1], room[2]}
	wasBack := slices.Clone(back)
	plan.Group(back, 10, 2)
	plan.Out(back, 30, 16)
	plan.Merged(back)
	if !slices.Equal(room, was) || !slices.Equal(back, wasBack) {
		t.Errorf("%v, %v; were %v, %v", room, back, was, wasBack)
	}
}

func TestWhatIsToldIsNewMemory(t *testing.T) { // P19.3
	for _, most := range []int{2, 3, 8} {
		l := ended(5, 6, 7)
		was := slices.Clone(l)
		a, _ := plan.Group(l, 10, most)
		b, _ := plan.Group(l, 10, most)
		clear(a[:cap(a)])
		if want := was[:min(most, 3)]; !slices.Equal(l, was) || !slices.Equal(b, want) {
			t.Errorf("%v, %v: they are in one memory with what was told", l, b)
		}
		clear(l)
		if want := was[:min(most, 3)]; !slices.Equal(b, want) {
			t.Errorf("%v: it is kept in what was handed in", b)
		}
	}
	for now := range int64(9) {
		l := ended(5, 6, 7)
		was := slices.Clone(l)
		want, _ := gone(was, now, 0)
		a, _ := plan.Out(l, now, 0)
		b, _ := plan.Out(l, now, 0)
		clear(a[:cap(a)])
		if !slices.Equal(l, was) || !slices.Equal(b, want) {
			t.Errorf("%v, %v: they are in one memory with what was told", l, b)
		}
		clear(l)
		if !slices.Equal(b, want) {
			t.Errorf("%v: it is kept in what was handed in", b)
		}
	}
}

// expectFollows holds what follows for a group: P19.4.
func expectFollows(t testing.TB, g []api.Meta, long, now, retention int64) {
	t.Helper()
	level, start, end := plan.Merged(g)
	into := []api.Meta{{Id: 1, Level: level, Start: start, End: end}}
	merged, err := plan.Out(into, now, retention)
	if err != nil {
		t.Fatal(err)
	}
	out, _ := plan.Out(g, now, retention)
	if len(merged) > 0 && len(out) < len(g) {
		t.Errorf("at %d, %d: what %v merges into has run out, but not all of them", now, retention, g)
	}
	if len(merged) == 0 && len(out) == len(g) {
		t.Errorf("at %d, %d: all of %v have run out, but not what they merge into", now, retention, g)
	}
	for _, m := range g {
		if m.Level != g[0].Level || m.Level >= maxLevel || window(m.End, long).Cmp(window(g[0].End, long)) != 0 {
			t.Errorf("%v is no group", g)
		}
		if level != m.Level+1 || start > m.Start || end < m.End {
			t.Errorf("%v merge into %d, %d, %d", g, level, start, end)
		}
	}
}

// some are metas that rise, of few levels and windows.
func some(r *rand.Rand) []api.Meta {
	var l []api.Meta
	id := uint64(r.Intn(3))
	ends := int64(1) << r.Intn(41)
	levels := 1 + r.Intn(12)
	for range r.Intn(40) {
		end := r.Int63n(ends)
		l = append(l, api.Meta{Id: id, Level: r.Intn(levels), Start: r.Int63n(end + 1), End: end, Pages: 1 + r.Intn(9), Traces: 9 + r.Intn(9)})
		id += 1 + uint64(r.Intn(9))
	}
	return l
}

func TestAnyMetas(t *testing.T) { // P19.1, P19.4
	r := rand.New(rand.NewSource(191))
	groups, outs := 0, 0
	for range 5000 {
		l := some(r)
		long := 1 + r.Int63n(1<<r.Intn(41))
		most := 2 + r.Intn(7)
		want, _ := grouped(l, long, most)
		expectGroup(t, l, long, most, want)
		retention := r.Int63n(1 << r.Intn(41))
		now := min(retention+r.Int63n(1<<r.Intn(41)), maxTime)
		out, _ := gone(l, now, retention)
		expectOut(t, l, now, retention, out)
		if len(want) > 0 {
			groups++
			expectFollows(t, want, long, now, retention)
			last := want[len(want)-1].End
			expectFollows(t, want, long, last, 0)
			expectFollows(t, want, long, min(last+retention, maxTime), retention)
		}
		if len(out) > 0 && len(out) < len(l) {
			outs++
		}
	}
	// Else they would hold little.
	if groups < 2000 || outs < 500 {
		t.Errorf("%d groups, %d that ran out in part", groups, outs)
	}
}

// TestManyMetas takes far more than there may be blocks.
func TestManyMetas(t *testing.T) { // P19.1, P1
	var l []api.Meta
	for i := range 200000 {
		l = append(l, at(uint64(i), i%9, int64(i/9)))
	}
	expectGroup(t, l, 1, 8, nil)
	expectGroup(t, l, 2, 8, []api.Meta{l[0], l[9]})
	expectOut(t, l, 1, 1, l[:9])
}

// read reads metas off any bytes, 8 each: Ids of which some don't rise, levels and
// Ends at the bounds and off them.
func read(b []byte) []api.Meta {
	var l []api.Meta
	id := uint64(0)
	for x := range slices.Chunk(b, 8) {
		if len(x) < 8 {
			break
		}
		id += uint64(x[0] % 16)
		m := api.Meta{Id: id, Level: int(int8(x[1])) % 13, End: int64(binary.BigEndian.Uint16(x[2:])) - 100}
		switch x[4] % 8 {
		case 0:
			m.End += math.MaxInt64 - 70000
		case 1:
			m.End += math.MinInt64 + 200
		case 2:
			m.End += maxTime - 30000
		}
		if x[5] == 255 {
			m.Level = math.MaxInt
		}
		m.Start = m.End - int64(x[6])
		l = append(l, m)
	}
	return l
}

// FuzzPlan holds all calls against the chapter's rules.
func FuzzPlan(f *testing.F) { // P19.1 to P19.4, P1
	f.Add([]byte{}, int64(10), 2, int64(5), int64(5))
	f.Add([]byte{1, 0, 0, 105, 3, 0, 0, 0, 1, 0, 0, 106, 3, 0, 0, 0}, int64(10), 2, int64(30), int64(18))
	f.Add([]byte{1, 0, 0, 105, 0, 0, 0, 0, 1, 0, 0, 106, 0, 0, 0, 0}, int64(1<<40), 8, int64(1<<40), int64(1<<40))
	f.Add([]byte{1, 9, 0, 0, 1, 255, 7, 0, 0, 9, 0, 0, 1, 255, 7, 0}, int64(1), 9, int64(-1), int64(0))
	f.Fuzz(func(t *testing.T, b []byte, long int64, most int, now, retention int64) {
		// The model takes each of them with each.
		l := read(b[:min(len(b), 400)])
		was := slices.Clone(l)
		g, wrong := grouped(l, long, most)
		if wrong != nil {
			expectNoGroup(t, l, long, most)
		} else {
			expectGroup(t, l, long, most, g)
		}
		o, late := gone(l, now, retention)
		if late != nil {
			expectNoOut(t, l, now, retention)
		} else {
			expectOut(t, l, now, retention, o)
		}
		if len(g) > 0 && late == nil {
			expectFollows(t, g, long, now, retention)
		}
		plan.Merged(l)
		if !slices.Equal(l, was) {
			t.Errorf("%v; was %v", l, was)
		}
	})
}
