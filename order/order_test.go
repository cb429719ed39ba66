package order_test

import (
	"cmp"
	"errors"
	"fmt"
	"math"
	"math/big"
	"math/rand/v2"
	"slices"
	"testing"

	"outrigger/api"
	"outrigger/filter"
	"outrigger/order"
)

const (
	greatest  = math.MaxFloat64
	least     = math.SmallestNonzeroFloat64
	leastHigh = 0x1p-1022 // the least normal float
	infinite  = uint64(2047) << 52
	signBit   = uint64(1) << 63
)

// noughtBelow: 0 below 0.
var noughtBelow = math.Copysign(0, -1)

func at(x, y float64) api.Point {
	return api.Point{X: math.Float64bits(x), Y: math.Float64bits(y)}
}

// over and under: one float beside.
func over(x float64) float64  { return math.Nextafter(x, math.Inf(1)) }
func under(x float64) float64 { return math.Nextafter(x, math.Inf(-1)) }

// seen: the coordinates, for a remark; of a long list those that begin it.
func seen(points ...api.Point) string {
	text := fmt.Sprintf("%d: ", len(points))
	for _, p := range points[:min(len(points), 40)] {
		text += fmt.Sprintf("(%x, %x) ", math.Float64frombits(p.X), math.Float64frombits(p.Y))
	}
	return text
}

// times: both coordinates so often; by a power of two that loses nothing.
func times(p api.Point, n float64) api.Point {
	return at(math.Float64frombits(p.X)*n, math.Float64frombits(p.Y)*n)
}

// number: the number that finite bits are, times 2^1074, which makes it
// whole; by the document's words (layer 5).
func number(b uint64) *big.Int {
	e, f := b>>52&2047, b&(1<<52-1)
	if e > 0 {
		f |= 1 << 52
		e--
	}
	x := new(big.Int).SetUint64(f)
	x.Lsh(x, uint(e))
	if b&signBit != 0 {
		x.Neg(x)
	}
	return x
}

// product: (p - q)(t - u), times 2^2148.
func product(p, q, t, u uint64) *big.Int {
	x, y := new(big.Int).Sub(number(p), number(q)), new(big.Int).Sub(number(t), number(u))
	return x.Mul(x, y)
}

// turnOf: the turn, by layer 7's words. squareOf: of how far two lie apart.
func turnOf(a, b, c api.Point) int {
	return product(a.X, c.X, b.Y, c.Y).Cmp(product(a.Y, c.Y, b.X, c.X))
}

func squareOf(a, b api.Point) *big.Int {
	sum := product(a.X, b.X, a.X, b.X)
	return sum.Add(sum, product(a.Y, b.Y, a.Y, b.Y))
}

// lexOf and aroundOf: the orders of Sort and of Around, reckoned exactly.
func lexOf(a, b api.Point) int {
	return cmp.Or(number(a.X).Cmp(number(b.X)), number(a.Y).Cmp(number(b.Y)))
}

func aroundOf(p api.Point) func(a, b api.Point) int {
	return func(a, b api.Point) int {
		if turn := turnOf(p, a, b); turn != 0 {
			return -turn
		}
		return squareOf(p, a).Cmp(squareOf(p, b))
	}
}

// byFloats: what lexOf tells, fast enough for long lists. (Floats that are
// finite are held against each other exactly.)
func byFloats(a, b api.Point) int {
	f := math.Float64frombits
	return cmp.Or(cmp.Compare(f(a.X), f(b.X)), cmp.Compare(f(a.Y), f(b.Y)))
}

// inOrder: the list in a new one, by an order, those of which neither is less as they stood.
func inOrder(l []api.Point, by func(a, b api.Point) int) []api.Point {
	l = slices.Clone(l)
	slices.SortStableFunc(l, by)
	return l
}

// norms: the points, each 0 below 0 as 0.
func norms(l []api.Point) (list []api.Point) {
	for _, p := range l {
		if p.X == signBit {
			p.X = 0
		}
		if p.Y == signBit {
			p.Y = 0
		}
		list = append(list, p)
	}
	return list
}

// counts: of each point how many there are.
func counts(l []api.Point) map[api.Point]int {
	many := map[api.Point]int{}
	for _, p := range l {
		many[p]++
	}
	return many
}

// sameCounts: are of each point as many in both?
func sameCounts(a, b []api.Point) bool {
	many := counts(b)
	for p, n := range counts(a) {
		if many[p] != n {
			return false
		}
	}
	return len(a) == len(b)
}

// checkSort holds Sort and Once of a list against an order, and sorts again what they tell.
func checkSort(t *testing.T, l []api.Point, by func(a, b api.Point) int) {
	t.Helper()
	before := slices.Clone(l)
	want := inOrder(l, by)
	sorted, e := order.Sort(l)
	if e != nil || !slices.Equal(sorted, want) {
		t.Errorf("P9.1: Sort of %s: %v %v, not %v", seen(before...), seen(sorted...), e, seen(want...))
	}
	if !sameCounts(sorted, before) {
		t.Errorf("P9.3: Sort of %s: %v has others, or more or fewer", seen(before...), seen(sorted...))
	}
	if again, e := order.Sort(sorted); e != nil || !slices.Equal(again, sorted) {
		t.Errorf("P9.3: Sort of %s: %v %v", seen(sorted...), seen(again...), e)
	}
	want = slices.Compact(norms(want))
	once, e := order.Once(l)
	if e != nil || !slices.Equal(once, want) {
		t.Errorf("P9.1: Once of %s: %v %v, not %v", seen(before...), seen(once...), e, seen(want...))
	}
	for _, l := range [][]api.Point{once, sorted} {
		if again, e := order.Once(l); e != nil || !slices.Equal(again, want) {
			t.Errorf("P9.3: Once of %s: %v %v", seen(l...), seen(again...), e)
		}
	}
	if again, e := order.Sort(once); e != nil || !slices.Equal(again, want) {
		t.Errorf("P9.3: Sort of %s: %v %v", seen(once...), seen(again...), e)
	}
	if !slices.Equal(l, before) {
		t.Errorf("P9.1: handed in was %s, is now %s", seen(before...), seen(l...))
	}
}

// checkAround holds Around against an order, and puts again around what it tells.
func checkAround(t *testing.T, p api.Point, l []api.Point, by func(a, b api.Point) int) {
	t.Helper()
	before := slices.Clone(l)
	want := inOrder(l, by)
	got, e := order.Around(p, l)
	if e != nil || !slices.Equal(got, want) {
		t.Errorf("P9.2: Around %s of %s: %v %v, not %v", seen(p), seen(before...), seen(got...), e, seen(want...))
	}
	if !sameCounts(got, before) {
		t.Errorf("P9.3: Around %s of %s: %v has others, or more or fewer", seen(p), seen(before...), seen(got...))
	}
	if again, e := order.Around(p, got); e != nil || !slices.Equal(again, got) {
		t.Errorf("P9.3: Around %s of %s: %v %v", seen(p), seen(got...), seen(again...), e)
	}
	if !slices.Equal(l, before) {
		t.Errorf("P9.2: handed in was %s, is now %s", seen(before...), seen(l...))
	}
}

// dice: the same numbers in each run.
func dice(seed uint64) *rand.Rand { return rand.New(rand.NewPCG(seed, 9)) }

// shuffled: the list in a new one, any way round.
func shuffled(l []api.Point, by *rand.Rand) []api.Point {
	l = slices.Clone(l)
	by.Shuffle(len(l), func(i, k int) { l[i], l[k] = l[k], l[i] })
	return l
}

// ways: a list as it is, the other way round, and a few ways more.
func ways(l []api.Point) [][]api.Point {
	back := slices.Clone(l)
	slices.Reverse(back)
	list := [][]api.Point{l, back}
	for seed := range uint64(6) {
		list = append(list, shuffled(l, dice(seed)))
	}
	return list
}

// noughts: (0, 0) in all ways that there are.
func noughts() []api.Point {
	return []api.Point{at(0, 0), at(noughtBelow, 0), at(0, noughtBelow), at(noughtBelow, noughtBelow)}
}

// points: small and great, above 0 and below, of unlike sizes, and at the ends
// of what floats can tell; of alike x, of alike y, in one line, alike ones,
// and such as differ in a 0 below 0 alone.
func points() []api.Point {
	return append(noughts(),
		at(1, 0), at(0, 1), at(noughtBelow, 1), at(0, 1), at(-1, noughtBelow), at(-1, 0), at(3, 4), at(-3, 4), at(3, 4), at(6, 8), at(0.1, 0.2), at(0.3, 0.6), at(1, over(1)), at(1, under(1)), at(over(1), 1), at(under(1), 1), at(1, 1), at(1, -1), at(2, 2), at(-7.5, -1e15), at(1e15, 3), at(1e15, -3),
		at(greatest, greatest), at(-greatest, -greatest), at(greatest, -greatest), at(-greatest, under(greatest)), at(under(greatest), greatest), at(least, 0), at(0, least), at(0, -least), at(-least, least), at(least, -2*least), at(2*least, least), at(leastHigh, under(leastHigh)), at(1e-200, -1e200), at(1e200, 1e-200), at(0x1p-600, 0x1p-520), at(0x1p-520, 0x1p-600), at(greatest, least), at(-least, greatest), at(1e200, noughtBelow), at(2e200, 0),
	)
}

// more: of a list what is lexicographically more than a point.
func more(p api.Point, l []api.Point) (list []api.Point) {
	for _, q := range l {
		if lexOf(p, q) < 0 {
			list = append(list, q)
		}
	}
	return list
}

func TestSort(t *testing.T) {
	for _, c := range []struct{ l, want []api.Point }{
		{nil, nil}, {[]api.Point{}, nil}, {[]api.Point{at(noughtBelow, 7)}, []api.Point{at(noughtBelow, 7)}},
		{[]api.Point{at(1, 0), at(0, 5), at(1, -1)}, []api.Point{at(0, 5), at(1, -1), at(1, 0)}},
		{[]api.Point{at(2, 1), at(1, 2)}, []api.Point{at(1, 2), at(2, 1)}},
		{[]api.Point{at(1, 2), at(2, 1)}, []api.Point{at(1, 2), at(2, 1)}},
		{[]api.Point{at(3, 0), at(-3, 0), at(-10, 0), at(10, 0), at(0.5, 0), at(-0.5, 0)}, []api.Point{at(-10, 0), at(-3, 0), at(-0.5, 0), at(0.5, 0), at(3, 0), at(10, 0)}},
		{[]api.Point{at(7, 3), at(7, -3), at(7, -10), at(7, 10), at(7, 0.5), at(7, -0.5)}, []api.Point{at(7, -10), at(7, -3), at(7, -0.5), at(7, 0.5), at(7, 3), at(7, 10)}},
		{[]api.Point{at(noughtBelow, 2), at(0, 1), at(0, 2), at(noughtBelow, 1)}, []api.Point{at(0, 1), at(noughtBelow, 1), at(noughtBelow, 2), at(0, 2)}},
		{[]api.Point{at(0, 0), at(noughtBelow, noughtBelow), at(0, -least), at(-least, 1)}, []api.Point{at(-least, 1), at(0, -least), at(0, 0), at(noughtBelow, noughtBelow)}},
		{[]api.Point{at(greatest, 0), at(1, 0), at(-greatest, 0), at(least, 0), at(under(greatest), 0)}, []api.Point{at(-greatest, 0), at(least, 0), at(1, 0), at(under(greatest), 0), at(greatest, 0)}},
		{[]api.Point{at(over(1), 1), at(1, over(1)), at(1, 1), at(1, under(1)), at(under(1), 5)}, []api.Point{at(under(1), 5), at(1, under(1)), at(1, 1), at(1, over(1)), at(over(1), 1)}},
		{[]api.Point{at(5, 5), at(5, 5), at(5, 4), at(5, 5)}, []api.Point{at(5, 4), at(5, 5), at(5, 5), at(5, 5)}},
	} {
		if got, e := order.Sort(c.l); e != nil || !slices.Equal(got, c.want) {
			t.Errorf("P9.1: Sort of %s: %s %v", seen(c.l...), seen(got...), e)
		}
		checkSort(t, c.l, lexOf)
	}
}

func TestOnce(t *testing.T) {
	for _, c := range []struct{ l, want []api.Point }{
		{nil, nil}, {[]api.Point{}, nil}, {[]api.Point{at(noughtBelow, 7)}, []api.Point{at(0, 7)}}, {[]api.Point{at(7, noughtBelow)}, []api.Point{at(7, 0)}},
		{[]api.Point{at(1, 0), at(0, 5), at(1, -1)}, []api.Point{at(0, 5), at(1, -1), at(1, 0)}},
		{noughts(), []api.Point{at(0, 0)}}, {noughts()[1:2], []api.Point{at(0, 0)}}, {noughts()[2:], []api.Point{at(0, 0)}},
		{[]api.Point{at(2, 1), at(1, 2), at(2, 1), at(1, 2), at(2, 1)}, []api.Point{at(1, 2), at(2, 1)}},
		{[]api.Point{at(noughtBelow, 2), at(0, 1), at(0, 2), at(noughtBelow, 1)}, []api.Point{at(0, 1), at(0, 2)}},
		{[]api.Point{at(3, noughtBelow), at(-3, 0), at(3, 0), at(-3, noughtBelow), at(1, 1)}, []api.Point{at(-3, 0), at(1, 1), at(3, 0)}},
		{[]api.Point{at(1, 1), at(1, over(1)), at(over(1), 1), at(1, 1), at(1, under(1))}, []api.Point{at(1, under(1)), at(1, 1), at(1, over(1)), at(over(1), 1)}},
		{[]api.Point{at(0, least), at(noughtBelow, -least), at(0, 0), at(noughtBelow, least), at(least, 0)}, []api.Point{at(0, -least), at(0, 0), at(0, least), at(least, 0)}},
		{[]api.Point{at(1, 2), at(1, -2), at(-1, 2), at(2, 1), at(-1, -2)}, []api.Point{at(-1, -2), at(-1, 2), at(1, -2), at(1, 2), at(2, 1)}},
	} {
		if got, e := order.Once(c.l); e != nil || !slices.Equal(got, c.want) {
			t.Errorf("P9.1: Once of %s: %s %v", seen(c.l...), seen(got...), e)
		}
		checkSort(t, c.l, lexOf)
	}
}

func TestSortAll(t *testing.T) {
	for _, l := range ways(points()) {
		checkSort(t, l, lexOf)
		checkSort(t, append(l, points()...), lexOf)
		for n := range len(l) {
			checkSort(t, l[n:], lexOf)
		}
	}
}

// Each list of up to six of few points, so that all ways to merge a few occur.
func TestSortFew(t *testing.T) {
	few := []api.Point{at(-1, 2), at(0, -1), at(noughtBelow, -1), at(0, 1), at(3, -5)}
	lists := [][]api.Point{nil}
	for range 6 {
		var longer [][]api.Point
		for _, l := range lists {
			for _, p := range few {
				longer = append(longer, append(slices.Clone(l), p))
			}
		}
		for _, l := range longer {
			if got, e := order.Sort(l); e != nil || !slices.Equal(got, inOrder(l, byFloats)) {
				t.Errorf("P9.1: Sort of %s: %s %v", seen(l...), seen(got...), e)
			}
			if got, e := order.Once(l); e != nil || !slices.Equal(got, slices.Compact(norms(inOrder(l, byFloats)))) {
				t.Errorf("P9.1: Once of %s: %s %v", seen(l...), seen(got...), e)
			}
		}
		lists = longer
	}
}

// rows: lists of that length that rise and that fall, each with an end
// elsewhere too, that hold one point many times, and any others; all points
// are more than (-9, 9).
func rows(n int) [][]api.Point {
	var rise, one, noughtsAlone, few, many []api.Point
	by := dice(uint64(n))
	for i := range n {
		rise = append(rise, at(float64(i/3), float64(i%3)))
		one = append(one, at(-2.5, 1e100))
		noughtsAlone = append(noughtsAlone, noughts()[by.IntN(4)])
		few = append(few, at(float64(by.IntN(3)), math.Copysign(float64(by.IntN(2)), float64(by.IntN(2))-0.5)))
		many = append(many, at(by.Float64()*4-2, math.Ldexp(by.Float64()-0.5, by.IntN(60)-30)))
	}
	fall := slices.Clone(rise)
	slices.Reverse(fall)
	if n == 0 {
		return [][]api.Point{nil, {}}
	}
	last := n - 1
	return [][]api.Point{rise, fall, one, noughtsAlone, few, many, append([]api.Point{rise[last]}, rise[:last]...), append(slices.Clone(rise[1:]), rise[0]), append([]api.Point{fall[last]}, fall[:last]...), append(slices.Clone(fall[1:]), fall[0])}
}

// Rows of every length, so that those that are merged end anywhere.
func TestLengths(t *testing.T) {
	p := at(-9, 9)
	for n := range 70 {
		for _, l := range rows(n) {
			checkSort(t, l, byFloats)
			checkAround(t, p, l, aroundOf(p))
		}
	}
}

// One by one behind, ahead of, or amid those that rise already, of each length.
func TestOneAmid(t *testing.T) {
	p := at(-1, 0)
	var rise []api.Point
	for n := range 40 {
		for place := range n + 1 {
			for _, one := range []api.Point{at(-0.5, 3), at(float64(n/2), 0.5), at(float64(n), -3), at(float64(place), noughtBelow)} {
				l := slices.Insert(slices.Clone(rise), place, one)
				checkSort(t, l, byFloats)
				if place%5 == n%5 {
					checkAround(t, p, l, aroundOf(p))
				}
			}
		}
		rise = append(rise, at(float64(n), 0))
	}
}

// Those of which neither is less stay as they stood, with their own bits.
func TestAsTheyStood(t *testing.T) {
	by := dice(1)
	for n := range 70 {
		var alike, above []api.Point
		for range n {
			alike = append(alike, noughts()[by.IntN(4)])
			above = append(above, api.Point{X: noughts()[by.IntN(4)].X, Y: math.Float64bits(2.5)})
		}
		for _, l := range [][]api.Point{alike, above} {
			if got, e := order.Sort(l); e != nil || !slices.Equal(got, l) {
				t.Errorf("P9.1: Sort of %s: %s %v", seen(l...), seen(got...), e)
			}
			for _, p := range []api.Point{at(0, -1), at(noughtBelow, -1), at(-1, 5), at(-3, -3), at(-least, greatest), at(-greatest, 0)} {
				if got, e := order.Around(p, l); e != nil || !slices.Equal(got, l) {
					t.Errorf("P9.2: Around %s of %s: %s %v", seen(p), seen(l...), seen(got...), e)
				}
			}
		}
		if got, e := order.Once(alike); e != nil || !slices.Equal(got, []api.Point{at(0, 0)}[:min(n, 1)]) {
			t.Errorf("P9.1: Once of %s: %s %v", seen(alike...), seen(got...), e)
		}
	}
}

// Long lists, of lengths beside a power of two and of others, and of more
// points than MaxPoints, which binds layer 19 alone: of many points, and of
// few many times.
func TestLong(t *testing.T) {
	by := dice(2)
	for _, n := range []int{1000, 4095, 4096, 4097, 70001} {
		for _, wide := range []int{12, 1 << 40} {
			var l []api.Point
			for range n {
				l = append(l, at(math.Copysign(float64(by.IntN(wide)), float64(by.IntN(2))-0.5), math.Copysign(float64(by.IntN(wide)), float64(by.IntN(2))-0.5)))
			}
			checkSort(t, l, byFloats)
			checkSort(t, inOrder(l, byFloats), byFloats)
		}
	}
}

// aroundWhole: what aroundOf tells, of small whole numbers, fast enough for long lists.
func aroundWhole(p api.Point) func(a, b api.Point) int {
	from := func(q api.Point) (x, y int64) {
		f := math.Float64frombits
		return int64(f(q.X)) - int64(f(p.X)), int64(f(q.Y)) - int64(f(p.Y))
	}
	return func(a, b api.Point) int {
		ax, ay := from(a)
		bx, by := from(b)
		return cmp.Or(cmp.Compare(ay*bx, ax*by), cmp.Compare(ax*ax+ay*ay, bx*bx+by*by))
	}
}

func TestAroundLong(t *testing.T) {
	by := dice(3)
	for _, n := range []int{500, 4096, 4097, 20011} {
		for _, wide := range []int{12, 1 << 20} {
			p := at(-1-float64(by.IntN(wide)), float64(by.IntN(wide)))
			var l []api.Point
			for range n {
				l = append(l, at(float64(by.IntN(wide)), math.Copysign(float64(by.IntN(wide)), float64(by.IntN(2))-0.5)))
			}
			checkAround(t, p, l, aroundWhole(p))
		}
	}
}

func TestAround(t *testing.T) {
	for _, c := range []struct {
		p       api.Point
		l, want []api.Point
	}{
		{at(0, 0), nil, nil}, {at(greatest, greatest), []api.Point{}, nil}, {at(3, -2), []api.Point{at(3, noughtBelow)}, []api.Point{at(3, noughtBelow)}},
		{at(0, 0), []api.Point{at(1, 1), at(1, -1)}, []api.Point{at(1, -1), at(1, 1)}},
		{at(0, 0), []api.Point{at(0, 3), at(2, 2), at(5, -1), at(1, 1), at(0, 1), at(1, -5), at(1, 1)}, []api.Point{at(1, -5), at(5, -1), at(1, 1), at(1, 1), at(2, 2), at(0, 1), at(0, 3)}},
		// By the way that they lie, neither by x or y nor by how far.
		{at(1, 2), []api.Point{at(2, 12), at(101, 3), at(3, 1), at(2, 2), at(11, 12)}, []api.Point{at(3, 1), at(2, 2), at(101, 3), at(11, 12), at(2, 12)}},
		{at(-5, -5), []api.Point{at(-4, 0), at(0, -4), at(-4, -100), at(100, -6)}, []api.Point{at(-4, -100), at(100, -6), at(0, -4), at(-4, 0)}},
		// In one line, nearer and farther, on a falling one too, and a level one.
		{at(0, 0), []api.Point{at(6, -3), at(2, -1), at(4, -2), at(1e10, -5e9), at(0.5, -0.25)}, []api.Point{at(0.5, -0.25), at(2, -1), at(4, -2), at(6, -3), at(1e10, -5e9)}},
		{at(-1, 7), []api.Point{at(3, 7), at(-0.5, 7), at(1e300, 7), at(0, 7)}, []api.Point{at(-0.5, 7), at(0, 7), at(3, 7), at(1e300, 7)}},
		{at(2, 2), []api.Point{at(5, 8), at(3, 4), at(4, 6), at(3, 4), at(4, 5)}, []api.Point{at(4, 5), at(3, 4), at(3, 4), at(4, 6), at(5, 8)}},
		// Right above p, of alike x, behind all others.
		{at(2, -1), []api.Point{at(2, 9), at(2, 0), at(over(2), greatest), at(2, 3), at(3, 100)}, []api.Point{at(3, 100), at(over(2), greatest), at(2, 0), at(2, 3), at(2, 9)}},
		{at(noughtBelow, 0), []api.Point{at(0, greatest), at(noughtBelow, least), at(0, least), at(noughtBelow, 1), at(least, greatest), at(least, -greatest)}, []api.Point{at(least, -greatest), at(least, greatest), at(noughtBelow, least), at(0, least), at(noughtBelow, 1), at(0, greatest)}},
		{at(0, noughtBelow), []api.Point{at(noughtBelow, 5), at(5, 0), at(0, 5), at(5, noughtBelow)}, []api.Point{at(5, 0), at(5, noughtBelow), at(noughtBelow, 5), at(0, 5)}},
		{at(1, 1), []api.Point{at(2, 1), at(over(over(1)), 1), at(over(1), 1)}, []api.Point{at(over(1), 1), at(over(over(1)), 1), at(2, 1)}},
		{at(1e-300, -1), []api.Point{at(1e-300, 1), at(1e-300, over(-1)), at(over(1e-300), -1)}, []api.Point{at(over(1e-300), -1), at(1e-300, over(-1)), at(1e-300, 1)}},
	} {
		if got, e := order.Around(c.p, c.l); e != nil || !slices.Equal(got, c.want) {
			t.Errorf("P9.2: Around %s of %s: %s %v", seen(c.p), seen(c.l...), seen(got...), e)
		}
		for _, l := range ways(c.l) {
			checkAround(t, c.p, l, aroundOf(c.p))
		}
	}
}

func TestAroundAll(t *testing.T) {
	for _, p := range points() {
		for _, l := range ways(more(p, append(points(), points()...))) {
			checkAround(t, p, l, aroundOf(p))
		}
	}
}

// unsure: of how many pairs floats aren't sure which way they lie from p.
func unsure(p api.Point, l []api.Point) (many int) {
	for i, a := range l {
		for _, b := range l[:i] {
			if _, sure := filter.Turn(p, a, b); !sure {
				many++
			}
		}
	}
	return many
}

// Points one float beside lines through p, or in them, of all sizes: of most
// pairs floats aren't sure.
func TestAroundBesideLine(t *testing.T) {
	for _, line := range []struct {
		p api.Point
		l []api.Point
	}{
		{at(0, 0), []api.Point{at(0.5, 0.5), at(1, 1), at(2, 2), at(3, 3), at(0.75, 0.75)}},
		{at(-3, -1), []api.Point{at(0, 0), at(3, 1), at(6, 2), at(9, 3)}},
		{at(-5, 4), []api.Point{at(-2, 2), at(1, 0), at(4, -2), at(7, -4)}},
		{at(-64, 1), []api.Point{at(1, 1.25), at(66, 1.5), at(-63.75, 1+0x1p-10)}},
		{at(-64, noughtBelow), []api.Point{at(3, 0), at(0.75, noughtBelow), at(-2, 0)}},
		{at(1, -5), []api.Point{at(1, 0), at(1, 0.25), at(1, 3), at(1, -4)}},
	} {
		for power := -1000; power <= 1000; power += 50 {
			n := math.Ldexp(1, power)
			p := times(line.p, n)
			var l []api.Point
			for _, q := range line.l {
				q = times(q, n)
				x, y := math.Float64frombits(q.X), math.Float64frombits(q.Y)
				l = append(l, at(x, over(y)), at(over(x), y), q, at(over(x), over(y)), q, at(over(over(x)), y), at(x, under(y)))
			}
			if unsure(p, l) < len(line.l) {
				t.Errorf("P9.2: of too few of %s floats aren't sure", seen(l...))
			}
			for _, l := range ways(l)[:4] {
				checkAround(t, p, l, aroundOf(p))
			}
		}
	}
}

// In one line, distances that floats can't tell apart: that differ in their
// last place alone, or are infinite, or 0.
func TestAroundInLine(t *testing.T) {
	for _, c := range []struct {
		p    api.Point
		rise []api.Point
	}{
		{at(-1, 0), []api.Point{at(1, 0), at(over(1), 0), at(over(over(1)), 0), at(over(over(over(1))), 0)}},
		{at(-1, -1), []api.Point{at(under(1), under(1)), at(1, 1), at(over(1), over(1)), at(over(over(1)), over(over(1)))}},
		{at(-1, 1), []api.Point{at(under(1), -under(1)), at(1, -1), at(over(1), -over(1)), at(3, -3), at(over(3), -over(3))}},
		{at(5, -1), []api.Point{at(5, under(1)), at(5, 1), at(5, over(1)), at(5, over(over(1))), at(5, 2)}},
		{at(-0x1p60, 7), []api.Point{at(-1, 7), at(-least, 7), at(0, 7), at(least, 7), at(1, 7), at(3, 7)}},
		{at(0, -0x1p60), []api.Point{at(0, -1), at(noughtBelow, -least), at(0, 0), at(noughtBelow, least), at(0, 1), at(noughtBelow, 3)}},
		{at(0, 0), []api.Point{at(0.1, 0.2), at(over(0.1), 2*over(0.1)), at(0.3, 0.6), at(over(0.3), 2*over(0.3))}},
		{at(-greatest, 0), []api.Point{at(0, 0), at(1, 0), at(under(greatest), 0), at(greatest, 0)}},
		{at(-greatest, -greatest), []api.Point{at(-1e200, -1e200), at(-least, -least), at(0, 0), at(under(greatest), under(greatest)), at(greatest, greatest)}},
		{at(0, 0), []api.Point{at(1, 0), at(1e200, 0), at(over(1e200), 0), at(2e200, noughtBelow), at(greatest, 0)}},
		{at(0, -greatest), []api.Point{at(0, under(0)), at(noughtBelow, 0), at(0, under(greatest)), at(noughtBelow, greatest)}},
		{at(0, 0), []api.Point{at(least, 0), at(2*least, 0), at(leastHigh, 0), at(over(leastHigh), 0), at(1e-200, 0), at(over(1e-200), 0)}},
		{at(-least, -least), []api.Point{at(0, 0), at(least, least), at(2*least, 2*least), at(0x1p-600, 0x1p-600), at(over(0x1p-600), over(0x1p-600))}},
		{at(1, 0), []api.Point{at(1, least), at(1, 2*least), at(1, 1e-300), at(1, over(1e-300))}},
	} {
		blind := 0
		for i := range c.rise[1:] {
			near, sureNear := filter.Far(c.p, c.rise[i])
			far, sureFar := filter.Far(c.p, c.rise[i+1])
			if !sureNear || !sureFar || (far-near)/far < 0x1p-48 {
				blind++
			}
		}
		if blind == 0 {
			t.Errorf("P9.2: floats tell all distances of %s from %s", seen(c.rise...), seen(c.p))
		}
		for _, l := range ways(c.rise) {
			if got, e := order.Around(c.p, l); e != nil || !slices.Equal(got, c.rise) {
				t.Errorf("P9.2: Around %s of %s: %s %v", seen(c.p), seen(l...), seen(got...), e)
			}
			checkAround(t, c.p, l, aroundOf(c.p))
			checkAround(t, c.p, append(l, c.rise...), aroundOf(c.p))
		}
	}
}

// Points by chance, and such as lie in few lines through p, of all sizes.
func TestAroundChance(t *testing.T) {
	by := dice(4)
	for range 300 {
		size := math.Ldexp(1, by.IntN(1900)-950)
		p := times(at(float64(by.IntN(9)-9), float64(by.IntN(9)-4)), size)
		var l []api.Point
		for range by.IntN(40) {
			far := math.Ldexp(1, by.IntN(60)-30)
			x, y := float64(by.IntN(5)), float64(by.IntN(5)-2)
			q := at(math.Float64frombits(p.X)+x*size*far, math.Float64frombits(p.Y)+y*size*far)
			l = append(l, q, times(at(float64(by.IntN(9)), float64(by.IntN(9)-4)), size))
		}
		l = more(p, l)
		checkAround(t, p, l, aroundOf(p))
		checkSort(t, append(l, p), lexOf)
	}
}

// Any way round a list comes, each once, to the same; so do Sort and Around of
// points that are unlike.
func TestAnyWayRound(t *testing.T) {
	all := points()
	want, e := order.Once(all)
	if e != nil {
		t.Fatalf("P9.1: Once: %v", e)
	}
	p := at(-greatest, -greatest)
	around, e := order.Around(p, more(p, want))
	if e != nil {
		t.Fatalf("P9.2: Around: %v", e)
	}
	by := dice(5)
	for range 200 {
		l := shuffled(all, by)
		if got, e := order.Once(l); e != nil || !slices.Equal(got, want) {
			t.Errorf("P9.3: Once of %s: %s %v", seen(l...), seen(got...), e)
		}
		l = shuffled(want, by)
		if got, e := order.Sort(l); e != nil || !slices.Equal(got, want) {
			t.Errorf("P9.3: Sort of %s: %s %v", seen(l...), seen(got...), e)
		}
		l = more(p, l)
		if got, e := order.Around(p, l); e != nil || !slices.Equal(got, around) {
			t.Errorf("P9.3: Around %s of %s: %s %v", seen(p), seen(l...), seen(got...), e)
		}
	}
}

// bads: bits that are none, infinite ones and others, of both signs, as X, as Y, and as both.
func bads() (list []api.Point) {
	for _, b := range []uint64{infinite, infinite | 1, infinite | 1<<51, infinite | (1<<52 - 1), math.Float64bits(math.NaN())} {
		for _, b := range []uint64{b, b | signBit} {
			list = append(list, api.Point{X: b}, api.Point{Y: b}, api.Point{X: signBit, Y: b}, api.Point{X: b, Y: math.Float64bits(-5)}, api.Point{X: b, Y: infinite}, api.Point{X: math.Float64bits(greatest), Y: b})
		}
	}
	return list
}

// faultAt: is it a fault of that code, and nothing else, at that place, and
// told as the document says faults are?
func faultAt(e error, code api.Code, place int) bool {
	var f *api.Fault
	var c api.Code
	return errors.As(e, &f) && f.At == place && f.Err != nil && f.Err == code &&
		errors.As(e, &c) && c == code && errors.Is(e, code) && e.Error() == fmt.Sprintf("%d: E%d", place, int(code))
}

// wantFault: is there a fault of that code at that place, and nothing beside it?
func wantFault(t *testing.T, what string, got []api.Point, e error, code api.Code, place int) {
	t.Helper()
	if !faultAt(e, code, place) || len(got) != 0 {
		t.Errorf("%s: %s %v, not E%d at %d", what, seen(got...), e, int(code), place)
	}
}

// aside: points that are all more than (-9, 9), in no order.
func aside(n int) []api.Point {
	var l []api.Point
	for i := range n {
		l = append(l, at(float64(i*7%13), float64(i*5%11)-5))
	}
	return l
}

// One that isn't good, at the first place, the last one, and others, and such
// behind it: the first is told.
func TestBadPoints(t *testing.T) {
	p := at(-9, 9)
	for _, bad := range bads() {
		for _, n := range []int{1, 2, 3, 8, 33, 100} {
			for place := 0; place < n; place += max(1, min(n/5, n-1-place)) {
				l := aside(n)
				l[place] = bad
				for range 2 {
					got, e := order.Sort(l)
					wantFault(t, "P9.1: Sort of "+seen(l...), got, e, api.BadPoint, place)
					got, e = order.Once(l)
					wantFault(t, "P9.1: Once of "+seen(l...), got, e, api.BadPoint, place)
					got, e = order.Around(p, l)
					wantFault(t, "P9.2: Around, of "+seen(l...), got, e, api.BadPoint, place+1)
					l[n-1], l[place+(n-place)/2] = bad, bads()[n%7]
				}
			}
		}
	}
}

// A middle that isn't good is ahead of all that is wrong in the list.
func TestBadMiddle(t *testing.T) {
	for _, bad := range bads() {
		for _, l := range [][]api.Point{nil, aside(1), aside(30), {at(-greatest, -greatest), at(1, 1)}, {bad}, {at(1, 1), bads()[0]}, bads(), {bad, at(-greatest, 0)}} {
			got, e := order.Around(bad, l)
			wantFault(t, "P9.2: Around "+seen(bad)+"of "+seen(l...), got, e, api.BadPoint, 0)
		}
	}
}

// notMore: middles, and points that aren't lexicographically more.
func notMore() []struct{ p, q api.Point } {
	list := []struct{ p, q api.Point }{
		{at(0, 0), at(0, -1)}, {at(0, 0), at(-1, 9)}, {at(0, 0), at(-least, greatest)}, {at(0, 0), at(0, -least)}, {at(0, 0), at(noughtBelow, -least)}, {at(noughtBelow, 0), at(0, -least)}, {at(1, 1), at(1, under(1))}, {at(1, 1), at(under(1), 1)}, {at(1, 1), at(under(1), greatest)}, {at(1, 1), at(1, 1)}, {at(-3, 4), at(-3, -4)}, {at(-3, 4), at(-4, 5)},
		{at(greatest, greatest), at(greatest, under(greatest))}, {at(greatest, greatest), at(-greatest, greatest)}, {at(greatest, greatest), at(greatest, greatest)}, {at(-greatest, -greatest), at(-greatest, -greatest)}, {at(0, 5), at(noughtBelow, 5)}, {at(noughtBelow, 5), at(0, 5)}, {at(5, noughtBelow), at(5, 0)}, {at(5, 0), at(5, noughtBelow)}, {at(1e200, -1e-200), at(1e200, -1e200)},
	}
	for _, p := range noughts() {
		for _, q := range noughts() {
			list = append(list, struct{ p, q api.Point }{p, q})
		}
	}
	for _, p := range points() {
		for _, q := range points() {
			if lexOf(q, p) <= 0 {
				list = append(list, struct{ p, q api.Point }{p, q})
			}
		}
	}
	return list
}

// One that isn't more than the middle, at any place, and such behind it: the first is told.
func TestBelow(t *testing.T) {
	for _, c := range notMore() {
		for n := range 6 {
			// There may be none that are more.
			l := more(c.p, points())
			l = append(l[:min(n, len(l))], c.q)
			place := len(l) - 1
			for range 3 {
				got, e := order.Around(c.p, l)
				wantFault(t, "P9.2: Around "+seen(c.p)+"of "+seen(l...), got, e, api.Below, place)
				l = append(l, c.q, c.p)
			}
			// What isn't good, ahead of it or behind it, is told first.
			for _, bad := range []api.Point{bads()[0], bads()[7]} {
				behind := append(slices.Clone(l), bad, c.q, bad)
				got, e := order.Around(c.p, behind)
				wantFault(t, "P9.2: Around "+seen(c.p)+"of "+seen(behind...), got, e, api.BadPoint, len(l)+1)
				ahead := slices.Insert(slices.Clone(l), place, bad)
				got, e = order.Around(c.p, ahead)
				wantFault(t, "P9.2: Around "+seen(c.p)+"of "+seen(ahead...), got, e, api.BadPoint, place+1)
			}
		}
	}
	long := aside(5000)
	long[4999] = at(-9, 9)
	got, e := order.Around(at(-9, 9), long)
	wantFault(t, "P9.2: Around, of 5000", got, e, api.Below, 4999)
	long[4098] = at(-9, 8)
	got, e = order.Around(at(-9, 9), long)
	wantFault(t, "P9.2: Around, of 5000", got, e, api.Below, 4098)
}

// calls: each call, around a point that is less than all others.
func calls() []func(l []api.Point) ([]api.Point, error) {
	p := at(-greatest, -greatest)
	return []func(l []api.Point) ([]api.Point, error){order.Sort, order.Once, func(l []api.Point) ([]api.Point, error) { return order.Around(p, l) }}
}

// A fault is the caller's to change.
func TestFaultsApart(t *testing.T) {
	lists := [][]api.Point{{at(1, 1), bads()[0]}, {at(1, 1), at(-greatest, -greatest)}}
	for i, call := range calls() {
		for k, l := range lists {
			if i < 2 && k == 1 {
				continue // Sort and Once have no Below.
			}
			code, place := api.BadPoint, 1
			switch {
			case k == 1:
				code = api.Below
			case i == 2:
				place = 2
			}
			for range 2 {
				got, e := call(l)
				wantFault(t, "P9.2: a fault, changed", got, e, code, place)
				var f *api.Fault
				if errors.As(e, &f) {
					f.At, f.Err = 77, api.Range
				}
			}
		}
	}
}

// What is handed in stays as it was, its spare room too, be it right or wrong.
func TestHandedIn(t *testing.T) {
	room := append(more(at(-greatest, -greatest), points()), api.Point{X: infinite, Y: signBit}, at(-greatest, -greatest))
	for i := range 40 {
		room = append(room, at(float64(-i), noughtBelow))
	}
	before := slices.Clone(room)
	for i, call := range calls() {
		for from := range len(room) {
			for _, to := range []int{from, from + 1, from + 2, from + 3, from + 11, len(room)} {
				call(room[from:min(to, len(room))])
				if !slices.Equal(room, before) {
					t.Fatalf("P9.1: call %d of those from %d to %d: handed in was %s, is now %s", i, from, to, seen(before...), seen(room...))
				}
			}
		}
	}
}

// What is answered has memory of its own: to change it, its spare room too,
// changes neither what was handed in nor other answers.
func TestOwnMemory(t *testing.T) {
	for n := range 40 {
		for _, l := range rows(n) {
			before := slices.Clone(l)
			for i, call := range calls() {
				one, e := call(l)
				two, f := call(l)
				want := slices.Clone(two)
				if e != nil || f != nil || !slices.Equal(one, two) {
					t.Errorf("P9.1: call %d of %s: %v %v, or not the same twice", i, seen(l...), e, f)
				}
				one = one[:cap(one)]
				for k := range one {
					one[k] = bads()[0]
				}
				three, e := call(l)
				if !slices.Equal(l, before) || !slices.Equal(two, want) || e != nil || !slices.Equal(three, want) {
					t.Errorf("P9.1: call %d of %s shares memory: %s %s %v", i, seen(before...), seen(l...), seen(three...), e)
				}
			}
		}
	}
}
