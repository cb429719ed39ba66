package hulls_test

import (
	"errors"
	"fmt"
	"math"
	"math/rand/v2"
	"slices"
	"testing"

	"outrigger/api"
	"outrigger/chain"
	"outrigger/filter"
	"outrigger/graham"
	"outrigger/groups"
	"outrigger/quick"
	"outrigger/shape"
)

// way: one of the ways to find a hull, and the promises that it keeps: of what
// is told, of what follows, and of what all ways have in common.
type way struct {
	told, follows, same string
	hull                func(l []api.Point) ([]api.Point, error)
}

// ways: all of them, that by two chains first.
func ways() []way {
	return []way{{"P11.1", "P11.2", "P11.2", chain.Hull}, {"P12.1", "P12.2", "P12.3", graham.Hull}, {"P13.1", "P13.2", "P13.3", quick.Hull}, {"P15.3", "P15.4", "P15.4", groups.Hull}}
}

// wantHull holds what each way answers against what is wanted, bit by bit.
func wantHull(t *testing.T, l, want []api.Point) {
	t.Helper()
	for _, w := range ways() {
		if h, e := w.hull(l); e != nil || !slices.Equal(h, want) {
			t.Errorf("%s: Hull of %s: %s %v, not %s", w.told, seen(l...), seen(h...), e, seen(want...))
		}
	}
}

// checkFollows: is what each way answers a right round of points of the list,
// by Norm, that holds them all, and do all ways tell the same, bit by bit?
func checkFollows(t *testing.T, l []api.Point) {
	t.Helper()
	first, _ := chain.Hull(l)
	once := onceOf(l)
	for _, w := range ways() {
		h, e := w.hull(l)
		if e != nil || !shape.Right(h) {
			t.Errorf("%s: Hull of %s: %s %v: not right", w.follows, seen(l...), seen(h...), e)
		}
		for _, p := range h {
			if _, found := slices.BinarySearchFunc(once, p, lexOf); !found || p != normOf(p) {
				t.Errorf("%s: Hull of %s has %s", w.follows, seen(l...), seen(p))
			}
		}
		for _, p := range once {
			if holds, e := shape.Holds(h, p); e != nil || !holds {
				t.Errorf("%s: Hull of %s, %s, doesn't hold %s: %v", w.follows, seen(l...), seen(h...), seen(p), e)
			}
		}
		if !slices.Equal(h, first) {
			t.Errorf("%s: Hull of %s: %s, by two chains %s", w.same, seen(l...), seen(h...), seen(first...))
		}
	}
}

// dice: the same numbers in each run.
func dice(seed uint64) *rand.Rand { return rand.New(rand.NewPCG(seed, 11)) }

// shuffled: the points in another order.
func shuffled(l []api.Point, by *rand.Rand) []api.Point {
	l = slices.Clone(l)
	by.Shuffle(len(l), func(i, k int) { l[i], l[k] = l[k], l[i] })
	return l
}

// turned: the round, begun at that place.
func turned(h []api.Point, place int) []api.Point {
	return append(slices.Clone(h[place:]), h[:place]...)
}

// back: the list, the other way round.
func back(l []api.Point) []api.Point {
	l = slices.Clone(l)
	slices.Reverse(l)
	return l
}

// signed: the points, some of which have 0 below 0 where they have 0.
func signed(l []api.Point, by *rand.Rand) []api.Point {
	l = slices.Clone(l)
	for i, p := range allBelow(l) {
		if by.IntN(2) == 0 {
			l[i].X = p.X
		}
		if by.IntN(2) == 0 {
			l[i].Y = p.Y
		}
	}
	return l
}

// allBelow: the points, each 0 as 0 below 0.
func allBelow(l []api.Point) (list []api.Point) {
	for _, p := range l {
		if floatX(p) == 0 {
			p.X = signBit
		}
		if floatY(p) == 0 {
			p.Y = signBit
		}
		list = append(list, p)
	}
	return list
}

// checkAnyOrder: the points as they come, the other way round, in other orders,
// sorted, and many times: always the same.
func checkAnyOrder(t *testing.T, l, want []api.Point, by *rand.Rand) {
	t.Helper()
	sorted := slices.Clone(l)
	slices.SortFunc(sorted, lexOf)
	twice := shuffled(append(slices.Clone(l), l...), by)
	for _, l := range [][]api.Point{l, back(l), sorted, back(sorted), shuffled(l, by), shuffled(l, by), twice, signed(l, by), signed(twice, by)} {
		wantHull(t, l, want)
	}
	// The corners ahead of all, behind all, and both.
	wantHull(t, append(slices.Clone(want), l...), want)
	wantHull(t, append(slices.Clone(l), want...), want)
	wantHull(t, append(back(want), append(slices.Clone(l), want...)...), want)
	// The hull of the hull, begun anywhere, and the other way round.
	for i := range min(len(want), 12) {
		wantHull(t, turned(want, i), want)
		wantHull(t, back(turned(want, i)), want)
	}
}

// bowl: a right round of n points of whole numbers, all with y = x^2.
func bowl(n int) (h []api.Point) {
	for i := range n {
		x := float64(i - n/2)
		h = append(h, at(x, x*x))
	}
	return h
}

// wheel: a right round of n points, at least three, beside a circle.
func wheel(n int) (h []api.Point) {
	for i := range n {
		sin, cos := math.Sincos(2 * math.Pi * float64(i) / float64(n))
		h = append(h, at(1000*cos, 1000*sin))
	}
	slices.SortFunc(h, lexOf)
	first := h[0]
	slices.SortFunc(h[1:], func(a, b api.Point) int {
		return -turnOf(first, a, b)
	})
	return h
}

// turnOf: the turn of three points, none of which lie in one line.
func turnOf(a, b, c api.Point) int {
	x, _ := numbers([]uint64{a.X, b.X, c.X})
	y, _ := numbers([]uint64{a.Y, b.Y, c.Y})
	return plane{x: x, y: y}.turn(0, 1, 2)
}

// chance: n points, of a kind: in a small grid, in a row of lines, of one
// size, of very unlike sizes, or around a few points, one float beside.
func chance(n, kind int, by *rand.Rand) (l []api.Point) {
	size := math.Ldexp(1, by.IntN(1900)-950)
	like := func() float64 { return (by.Float64() - 0.5) * size }
	unlike := func() float64 { return math.Ldexp(by.Float64()-0.5, by.IntN(2000)-1000) }
	beside := func(x float64) float64 { return []float64{x, x, under(x), over(x)}[by.IntN(4)] }
	for range n {
		switch kind % 5 {
		case 0:
			l = append(l, at(float64(by.IntN(9)-4)*size, float64(by.IntN(9)-4)*size))
		case 1:
			x := float64(by.IntN(40) - 20)
			l = append(l, at(x*size, (x/2+float64(by.IntN(3)))*size))
		case 2:
			l = append(l, at(like(), like()))
		case 3:
			l = append(l, at(unlike(), unlike()))
		default:
			x := float64(by.IntN(5) - 2)
			l = append(l, at(beside(x*size), beside(x*size)))
		}
	}
	return l
}

// What tests go by is itself right: the words and the sides tell the same, and
// wheels and bowls are what they should be.
func TestWords(t *testing.T) {
	t.Parallel()
	by := dice(1)
	for n := range 300 {
		l := chance(n%30, n, by)
		if words, sides := hullOf(l), hullBySides(l); !slices.Equal(words, sides) || !rightOf(words) {
			t.Errorf("of %s the words tell %s, the sides %s", seen(l...), seen(words...), seen(sides...))
		}
	}
	for n := 3; n < 60; n++ {
		for _, h := range [][]api.Point{wheel(n), bowl(n)} {
			if len(h) != n || !rightOf(h) || n < 20 && !slices.Equal(h, hullOf(h)) {
				t.Errorf("no right round: %s", seen(h...))
			}
		}
	}
	if h := coarse(wheel(400)); !rightOf(h) {
		t.Errorf("no right round: %s", seen(h...))
	}
	square := points(0, 0, 2, 0, 2, 2, 0, 2)
	if !slices.Equal(hullOf(append(points(1, 1, 1, 0, 2, 1), square...)), square) || rightOf(back(square)) || rightOf(turned(square, 1)) || rightOf(points(0, 0, 1, 1, 2, 2)) {
		t.Errorf("the words tell of a square: %s", seen(hullOf(square)...))
	}
}

// What the document gives, and each edge that it names, written out.
func TestHull(t *testing.T) {
	t.Parallel()
	square := points(0, 0, 2, 0, 2, 2, 0, 2)
	by := dice(2)
	for _, c := range []struct{ l, want []api.Point }{
		{nil, nil}, {[]api.Point{}, nil},
		// One.
		{points(3, 4), points(3, 4)}, {points(noughtBelow, 4), points(0, 4)}, {points(-4, noughtBelow), points(-4, 0)}, {points(noughtBelow, noughtBelow), points(0, 0)}, {points(greatest, -greatest), points(greatest, -greatest)}, {points(-least, least), points(-least, least)},
		// Two: that rise, that fall, that are alike, that differ in a 0 below 0 alone.
		{points(1, 2, 3, 1), points(1, 2, 3, 1)}, {points(3, 1, 1, 2), points(1, 2, 3, 1)}, {points(1, 5, 1, -5), points(1, -5, 1, 5)}, {points(1, -5, 1, 5), points(1, -5, 1, 5)}, {points(7, 0, -7, 0), points(-7, 0, 7, 0)}, {points(2, 3, 2, 3), points(2, 3)}, {points(0, 0, noughtBelow, 0), points(0, 0)}, {points(noughtBelow, noughtBelow, 0, 0), points(0, 0)}, {points(5, noughtBelow, 5, 0), points(5, 0)}, {points(noughtBelow, 5, 0, -5), points(0, -5, 0, 5)}, {points(0, noughtBelow, noughtBelow, 1), points(0, 0, 0, 1)}, {points(over(1), 0, 1, 0), points(1, 0, over(1), 0)}, {points(least, 0, noughtBelow, 0), points(0, 0, least, 0)}, {points(0, -least, 0, noughtBelow), points(0, -least, 0, 0)},
		// All alike.
		{points(4, 4, 4, 4, 4, 4, 4, 4), points(4, 4)}, {points(noughtBelow, 0, 0, 0, 0, noughtBelow, noughtBelow, noughtBelow), points(0, 0)}, {points(-1, noughtBelow, -1, 0, -1, noughtBelow), points(-1, 0)},
		// In one line: level, upright, slanting.
		{points(2, 2, 0, 0, 1, 1, 2, 2), points(0, 0, 2, 2)}, {points(0, 3, 0, 1, 0, 2), points(0, 1, 0, 3)}, {points(3, 0, 1, 0, 2, 0), points(1, 0, 3, 0)}, {points(0, 0, 3, -3, 1, -1), points(0, 0, 3, -3)}, {points(0, 0, 0, 5, noughtBelow, -5), points(0, -5, 0, 5)}, {points(6, 2, -3, -1, 3, 1, 0, 0), points(-3, -1, 6, 2)}, {points(-greatest, -greatest, greatest, greatest, 0, 0, 1, 1), points(-greatest, -greatest, greatest, greatest)}, {points(least, least, 0, 0, -least, -least), points(-least, -least, least, least)}, {points(0, greatest, 0, -greatest, 0, noughtBelow), points(0, -greatest, 0, greatest)},
		// Three corners.
		{points(0, 0, 0, 1, 1, 0), points(0, 0, 1, 0, 0, 1)}, {points(0, 0, 1, 0, 0, 1), points(0, 0, 1, 0, 0, 1)}, {points(0, 0, 1, 1, 0.5, 0.5+0x1p-53), points(0, 0, 1, 1, 0.5, 0.5+0x1p-53)}, {points(0, 0, 1, 1, 0.5, 0.5), points(0, 0, 1, 1)}, {points(0, 0, 1, 1, 0.5, 0.5-0x1p-54), points(0, 0, 0.5, 0.5-0x1p-54, 1, 1)}, {points(-greatest, 0, greatest, 0, 0, least, 1, 0), points(-greatest, 0, greatest, 0, 0, least)}, {points(0, 0, 3, 1, 1, 3, 1, 1, 2, 2), points(0, 0, 3, 1, 1, 3)},
		// A square: points within it, on its borders, at its corners, without.
		{append(points(1, 1, 0.5, 1.5), square...), square}, {append(points(1, 0, 2, 1, 1, 2, 0, 1), square...), square}, {append(points(1, noughtBelow, noughtBelow, 1), square...), square}, {append(points(0, 0, 2, 2, 2, 2), square...), square}, {append(points(1, over(0), under(2), 1, 1, under(2), over(0), 1), square...), square},
		{append(points(1, under(0)), square...), points(0, 0, 1, under(0), 2, 0, 2, 2, 0, 2)}, {append(points(over(2), 1), square...), points(0, 0, 2, 0, over(2), 1, 2, 2, 0, 2)}, {append(points(1, over(2)), square...), points(0, 0, 2, 0, 2, 2, 1, over(2), 0, 2)}, {append(points(under(0), 1), square...), points(under(0), 1, 0, 0, 2, 0, 2, 2, 0, 2)},
		{append(points(3, 0), square...), points(0, 0, 3, 0, 2, 2, 0, 2)}, {append(points(0, 3), square...), points(0, 0, 2, 0, 2, 2, 0, 3)}, {append(points(9, 9), square...), points(0, 0, 2, 0, 9, 9, 0, 2)}, {append(points(-1, -1), square...), points(-1, -1, 2, 0, 2, 2, 0, 2)},
		// Several of the least x, and of the greatest x; beside them none.
		{points(0, 1, 0, 0, 0, 2, 1, 1), points(0, 0, 1, 1, 0, 2)}, {points(1, 1, 1, 0, 1, 2, 0, 1), points(0, 1, 1, 0, 1, 2)}, {points(0, 5, 0, 6, 0, 7, 1, 1, 1, 2, 1, 3), points(0, 5, 1, 1, 1, 3, 0, 7)}, {points(0, 2, 0, 0, 0, 1, 4, 2, 4, 1, 4, 0, 2, 1), points(0, 0, 4, 0, 4, 2, 0, 2)},
		// The greatest and the least floats.
		{points(greatest, greatest, -greatest, -greatest, -greatest, greatest, greatest, -greatest, 0, 0, under(greatest), greatest), points(-greatest, -greatest, greatest, -greatest, greatest, greatest, -greatest, greatest)}, {points(least, least, 0, 0, 0, least, least, 0, 0, 0), points(0, 0, least, 0, least, least, 0, least)}, {points(-greatest, 0, 0, -least, greatest, 0, 0, least, 0, 0), points(-greatest, 0, 0, -least, greatest, 0, 0, least)}, {points(0, 0, greatest, least, greatest, 2*least, greatest/2, least), points(0, 0, greatest, least, greatest, 2*least)}, {points(0, 0, greatest, 0, least, 0, 1, 0, 1, least), points(0, 0, greatest, 0, 1, least)}, {points(leastHigh, 0, under(leastHigh), 0, 0, under(leastHigh), 0, leastHigh), points(0, under(leastHigh), under(leastHigh), 0, leastHigh, 0, 0, leastHigh)},
		{points(1e200, 1e100, 1e-200, -1e200, -1e200, 1e-200, 0, 0, 1, 1), points(-1e200, 1e-200, 1e-200, -1e200, 1e200, 1e100)},
		// What the way there and the way back take away: several at once, some of them late.
		{points(0, 0, 1, 3, 2, 2.5, 3, 2, 4, 9), points(0, 0, 3, 2, 4, 9, 1, 3)}, {points(0, 0, 1, -1, 2, 0, 3, 1, 4, 2, 5, -9), points(0, 0, 5, -9, 4, 2)}, {points(0, 0, 1, 1, 2, 3, 3, 6, 4, 10, 5, -1, 6, 0), points(0, 0, 5, -1, 6, 0, 4, 10)}, {points(0, 0, 4, -1, 6, 0, 5, 3, 2, 4, 1, 3, 3, 1, 4, 2), points(0, 0, 4, -1, 6, 0, 5, 3, 2, 4, 1, 3)},
	} {
		if words := hullOf(c.l); !slices.Equal(words, c.want) {
			t.Errorf("%s: the words tell %s, not %s", seen(c.l...), seen(words...), seen(c.want...))
		}
		checkAnyOrder(t, c.l, c.want, by)
		checkFollows(t, c.l)
	}
}

// gridSets: each set of points of a grid of three by three: all ways that few
// points can lie to one another. The first one has none.
func gridSets() (sets [][]api.Point) {
	for mask := range 1 << 9 {
		var l []api.Point
		for i := range 9 {
			if mask>>i&1 == 1 {
				l = append(l, at(float64(i/3-1), float64(i%3-1)))
			}
		}
		sets = append(sets, l)
	}
	return sets
}

// Each set of points of a grid, in many orders.
func TestGrid(t *testing.T) {
	t.Parallel()
	by := dice(3)
	for _, l := range gridSets() {
		checkAnyOrder(t, l, hullOf(l), by)
	}
	for n := range 1500 {
		var l []api.Point
		for range 3 + n%12 {
			l = append(l, at(float64(by.IntN(4)), float64(by.IntN(4+n%3)-2)))
		}
		wantHull(t, l, hullOf(l))
	}
}

// orders hands each order of the points to do.
func orders(l []api.Point, from int, do func(l []api.Point)) {
	if from == len(l) {
		do(l)
		return
	}
	for i := from; i < len(l); i++ {
		l[from], l[i] = l[i], l[from]
		orders(l, from+1, do)
		l[from], l[i] = l[i], l[from]
	}
}

// A few points in each of their orders: one hull.
func TestEachOrder(t *testing.T) {
	t.Parallel()
	for _, l := range [][]api.Point{
		points(0, 0, 1, 0, 2, 0, 3, 0, 4, 0), points(0, 0, 0, 1, 0, 2, 0, 3, 0, noughtBelow), points(-3, -1, 0, 0, 3, 1, 6, 2, 3, over(1), 0, -least), points(0, 0, 2, 0, 2, 2, 0, 2, 1, 1, 1, 0), points(0, 0, 4, 0, 0, 4, 2, 2, 1, 1, 4, 0), points(0, 0, 1, 0, 2, 0, 0, 1, 1, 1, 0, 2), bowl(6), points(greatest, 0, -greatest, 0, 0, least, 0, -least, 0, 0, noughtBelow, noughtBelow), points(1, 1, 1, 1, noughtBelow, 1, 0, 1, 2, 1, 2, 1), points(0, 0, 1, 1, 0.5, 0.5+0x1p-53, 0.5, 0.5, 0.5, 0.5-0x1p-54),
	} {
		want := hullOf(l)
		orders(slices.Clone(l), 0, func(l []api.Point) { wantHull(t, l, want) })
	}
}

// Lists of none to some dozens of points by chance, of all kinds.
func TestChance(t *testing.T) {
	t.Parallel()
	by := dice(4)
	corners, others := 0, 0
	for n := range 600 {
		l := chance(n%37, n, by)
		want := hullOf(l)
		corners, others = corners+len(want), others+len(onceOf(l))-len(want)
		checkAnyOrder(t, l, want, by)
		checkFollows(t, l)
	}
	if corners < 3000 || others < 3000 {
		t.Errorf("%d corners, %d others", corners, others)
	}
}

// Lists of some hundreds, of all kinds: by segments and triangles up to there,
// and by sides farther on.
func TestHundreds(t *testing.T) {
	t.Parallel()
	by := dice(5)
	for kind := range 10 {
		l := chance(90+3*kind, kind, by)
		checkAnyOrder(t, l, hullOf(l), by)
		checkFollows(t, l)
		l = chance(150+25*kind, kind, by)
		checkAnyOrder(t, l, hullBySides(l), by)
		checkFollows(t, l)
	}
}

// Rounds that are all corners, and such with a lesser one: half a wheel lies
// within the wheel, half a bowl doesn't lie within the bowl.
func TestAllCorners(t *testing.T) {
	t.Parallel()
	by := dice(13)
	for _, n := range []int{3, 4, 30, 100} {
		for _, size := range []float64{0x1p-540, 1, 0x1p1000} {
			h := times(wheel(n), size)
			checkAnyOrder(t, h, h, by)
			checkAnyOrder(t, append(h[:n:n], times(h, 0.5)...), h, by)
			h = times(bowl(n), size)
			checkAnyOrder(t, h, h, by)
			l := append(h[:n:n], times(h, 0.5)...)
			checkAnyOrder(t, l, hullBySides(l), by)
		}
	}
}

// In one line: level, upright, aslant; all of it is a hull of two. With one
// point of it one float beside, or two, one to each side, there are more.
func TestInLine(t *testing.T) {
	t.Parallel()
	by := dice(6)
	for _, way := range points(1, 0, 0, 1, 1, 1, 1, -1, 3, 1, -2, 5, 1, 0.25, 0.125, -1) {
		x, y := floatX(way), floatY(way)
		for _, n := range []int{3, 4, 7, 60} {
			for _, size := range []float64{0x1p-1060, 0x1p-600, 1, 0x1p80, 0x1p1010} {
				var l []api.Point
				for i := range n {
					far := float64(8 * (i - n/2))
					l = append(l, at(x*far*size, y*far*size))
				}
				ends := onceOf([]api.Point{l[0], l[n-1]})
				checkAnyOrder(t, shuffled(l, by), ends, by)
				for range 3 {
					one, two := 1+by.IntN(n-2), 1+by.IntN(n-2)
					near := slices.Clone(l)
					if x == 0 {
						near[one].X = math.Float64bits(over(floatX(near[one])))
					} else {
						near[one].Y = math.Float64bits(over(floatY(near[one])))
					}
					want := hullBySides(near)
					if len(want) != 3 {
						t.Errorf("%s has %s", seen(near...), seen(want...))
					}
					checkAnyOrder(t, shuffled(near, by), want, by)
					near[two] = at(under(floatX(l[two])), under(floatY(l[two])))
					checkAnyOrder(t, shuffled(near, by), hullBySides(near), by)
				}
			}
		}
	}
}

// Several points of the least x, and of the greatest x, and between them
// such as lie within, without, or on the borders.
func TestSeveralOfOneX(t *testing.T) {
	t.Parallel()
	by := dice(7)
	for n := range 400 {
		var l []api.Point
		for range 1 + by.IntN(6) {
			l = append(l, at(-3, float64(by.IntN(9)-4)), at(5, float64(by.IntN(9)-4)))
		}
		for range n % 8 {
			l = append(l, at(float64(by.IntN(9)-3), float64(by.IntN(15)-7)))
		}
		want := hullOf(l)
		for _, size := range []float64{1, least, 0x1p1020} {
			checkAnyOrder(t, shuffled(times(l, size), by), times(want, size), by)
		}
	}
}

// Each point many times, with 0 below 0 and without: each once, by Norm.
func TestManyTimes(t *testing.T) {
	t.Parallel()
	by := dice(8)
	few := []float64{0, noughtBelow, 1, -1, least, -least, 1e200}
	blind := 0
	for n := range 500 {
		var l []api.Point
		for range 1 + n%50 {
			l = append(l, at(few[by.IntN(1+n%7)], few[by.IntN(len(few))]))
		}
		want := hullOf(l)
		if slices.ContainsFunc(want, func(p api.Point) bool { return p.X == 0 || p.Y == 0 }) {
			blind++
		}
		checkAnyOrder(t, l, want, by)
	}
	if blind < 200 {
		t.Errorf("%d hulls with a 0", blind)
	}
	for _, h := range [][]api.Point{points(0, 0), points(0, 0, 1, 0), points(0, -1, 0, 1), points(-1, 0, 0, -1, 1, 0, 0, 1), points(0, 0, 1, 0, 1, 1, 0, 1), bowl(9)} {
		many := slices.Repeat(h, 70)
		wantHull(t, many, h)
		wantHull(t, shuffled(signed(many, by), by), h)
		wantHull(t, allBelow(h), h)
		wantHull(t, append(allBelow(h), h...), h)
		wantHull(t, append(slices.Clone(h), allBelow(h)...), h)
	}
}

// Points in a border, at a corner, and one float beside it, within and without,
// of each size; floats aren't sure.
func TestBesideBorder(t *testing.T) {
	t.Parallel()
	by := dice(9)
	blind := 0
	for _, c := range []struct {
		h   []api.Point // from the first point to the second one the border goes, above it lies the round
		mid api.Point
	}{
		{points(0, 0, 1, 1, 0, 1), at(0.5, 0.5)}, {points(-3, -1, 6, 2, 0, 9), at(3, 1)}, {points(-5, 4, 7, -4, 8, 8), at(-2, 2)}, {points(-1, 1, 1, 1.25, 0, 3, -0.5, 2.5), at(0.5, 1.1875)}, {points(-64, 1, 66, 1.5, 1, 7), at(1, 1.25)}, {points(-64, 0, 3, 0, 1, 1), at(0.75, 0)}, {points(0, 0, 3, 1, 1, 2), at(1.5, 0.5)},
	} {
		for power := -1000; power <= 1000; power += 50 {
			n := math.Ldexp(1, power)
			h, mid := times(c.h, n), times([]api.Point{c.mid}, n)[0]
			within, without := at(floatX(mid), over(floatY(mid))), at(floatX(mid), under(floatY(mid)))
			for _, p := range []api.Point{mid, within, without} {
				if _, sure := filter.Turn(h[0], h[1], p); !sure {
					blind++
				}
			}
			with := slices.Insert(slices.Clone(h), 1, without)
			for _, view := range views() {
				// Whichever way it lies then, the corners stay the same.
				checkBeside(t, seenFrom(h, view), []api.Point{view(mid), view(within)}, by)
				checkBeside(t, seenFrom(with, view), []api.Point{view(mid), view(within)}, by)
				checkBeside(t, seenFrom([]api.Point{h[0], h[1], within}, view), []api.Point{view(mid)}, by)
				checkBeside(t, seenFrom([]api.Point{h[0], h[1], without}, view), []api.Point{view(mid)}, by)
				checkBeside(t, seenFrom(h[:2], view), []api.Point{view(mid)}, by)
			}
		}
	}
	if blind < 400 {
		t.Errorf("floats are sure but of %d", blind)
	}
}

// views: a plane as it is, from above, with x and y in each other's place, and
// turned by a quarter.
func views() []func(p api.Point) api.Point {
	return []func(p api.Point) api.Point{
		func(p api.Point) api.Point { return p },
		func(p api.Point) api.Point { return normOf(at(-floatX(p), -floatY(p))) },
		func(p api.Point) api.Point { return api.Point{X: p.Y, Y: p.X} },
		func(p api.Point) api.Point { return normOf(at(-floatY(p), floatX(p))) },
	}
}

// seenFrom: all points in a view.
func seenFrom(l []api.Point, view func(p api.Point) api.Point) (list []api.Point) {
	for _, p := range l {
		list = append(list, view(p))
	}
	return list
}

// checkBeside: are those the corners, with the others and without?
func checkBeside(t *testing.T, corners, others []api.Point, by *rand.Rand) {
	t.Helper()
	want := hullOf(corners)
	if len(want) != len(corners) {
		t.Errorf("%s aren't all corners", seen(corners...))
	}
	wantHull(t, corners, want)
	for _, p := range others {
		wantHull(t, shuffled(append(slices.Clone(corners), p), by), want)
	}
	wantHull(t, shuffled(append(slices.Clone(corners), others...), by), want)
}

// Points beside each corner of rounds, one float to each side, and between each
// two corners, rounded to where floats are: by the words.
func TestBesideCorners(t *testing.T) {
	t.Parallel()
	by := dice(10)
	blind, all := 0, 0
	for _, h := range [][]api.Point{points(0, 0, 1, 0, 0, 1), points(0, 0, 3, 1, 1, 3), wheel(5), wheel(8), bowl(6), times(wheel(7), 0x1p-540), times(bowl(5), least), times(wheel(6), 0x1p1000)} {
		for range 12 {
			l := slices.Clone(h)
			for i, p := range h {
				q := h[(i+1)%len(h)]
				part := by.Float64()
				mid := at(floatX(p)*part+floatX(q)*(1-part), floatY(p)*part+floatY(q)*(1-part))
				if _, sure := filter.Turn(p, q, mid); !sure {
					blind++
				}
				all++
				l = append(l, mid, at(floatX(mid), under(floatY(mid))), at(over(floatX(mid)), floatY(mid)), []api.Point{at(over(floatX(p)), floatY(p)), at(floatX(p), over(floatY(p))), at(under(floatX(p)), under(floatY(p)))}[by.IntN(3)])
			}
			checkAnyOrder(t, l, hullOf(l), by)
			checkFollows(t, l)
		}
	}
	if blind < all/2 {
		t.Errorf("floats are sure of all of %d but %d", all, blind)
	}
}

// Lists of thousands: by what follows, and where the hull is known, by that.
func TestThousands(t *testing.T) {
	t.Parallel()
	by := dice(11)
	for kind := range 10 {
		checkFollows(t, chance(3000+500*kind, kind, by))
	}
	for _, h := range [][]api.Point{coarse(wheel(400)), bowl(400), points(-1000, -1000, 1000, -1000, 1000, 1000, -1000, 1000), points(-1000, 0, 1000, 0)} {
		l := slices.Clone(h)
		for range 4700 {
			p, q := h[by.IntN(len(h))], h[by.IntN(len(h))]
			mid := at(floatX(p)*0.5+floatX(q)*0.5, floatY(p)*0.5+floatY(q)*0.5) // exactly
			l = append(l, mid, q)
		}
		wantHull(t, shuffled(l, by), h)
		checkFollows(t, shuffled(l, by))
	}
	long := bowl(6000)
	wantHull(t, shuffled(long, by), long)
	wantHull(t, back(long), long)
	wantHull(t, turned(long, 3456), long)
	wantHull(t, shuffled(append(slices.Repeat(long[:3], 3000), long...), by), long)
	var line []api.Point
	for i := range 6000 {
		line = append(line, at(float64(i-3000)*3, float64(i-3000)))
	}
	wantHull(t, shuffled(line, by), []api.Point{line[0], line[5999]})
	line[2999].Y = math.Float64bits(under(floatY(line[2999])))
	wantHull(t, shuffled(line, by), []api.Point{line[0], line[2999], line[5999]})
}

// coarse: a round, its coordinates rounded so far that middles are exact.
func coarse(h []api.Point) (list []api.Point) {
	for _, p := range h {
		list = append(list, normOf(at(math.Round(floatX(p)*0x1p20)*0x1p-20, math.Round(floatY(p)*0x1p20)*0x1p-20)))
	}
	return list
}

// bads: bits that are none, infinite ones and others, of both signs, as X, as Y, and as both.
func bads() (list []api.Point) {
	for _, b := range []uint64{infinite, infinite | 1, infinite | 1<<51, infinite | (1<<52 - 1), math.Float64bits(math.NaN())} {
		for _, b := range []uint64{b, b | signBit} {
			list = append(list, api.Point{X: b}, api.Point{Y: b}, api.Point{X: signBit, Y: b}, api.Point{X: b, Y: math.Float64bits(-5)}, api.Point{X: b, Y: infinite}, api.Point{X: math.Float64bits(greatest), Y: b})
		}
	}
	return list
}

// wantFault: does each way tell that the point at that place is the first that
// isn't good, as the document says faults are, and nothing beside it?
func wantFault(t *testing.T, l []api.Point, place int) {
	t.Helper()
	for _, w := range ways() {
		h, e := w.hull(l)
		var f *api.Fault
		var c api.Code
		if len(h) != 0 || !errors.As(e, &f) || f.At != place || f.Err == nil || f.Err != api.BadPoint ||
			!errors.As(e, &c) || c != api.BadPoint || !errors.Is(e, api.BadPoint) || e.Error() != fmt.Sprintf("%d: E1", place) {
			t.Errorf("%s: Hull of %s: %s %v, not a fault at %d", w.told, seen(l...), seen(h...), e, place)
		}
	}
}

// One that isn't good, at the first place, the last one, and others, and such
// behind it: the first is told.
func TestBadPoints(t *testing.T) {
	t.Parallel()
	for k, bad := range bads() {
		for _, n := range []int{1, 2, 3, 4, 9, 40, 300} {
			for place := 0; place < n; place += max(1, min(n/5, n-1-place)) {
				alike := slices.Repeat(points(noughtBelow, 3), n)
				for _, l := range [][]api.Point{turned(bowl(n), n/3), alike, slices.Repeat(points(2, 2, 1, 1), n)[:n]} {
					l[place] = bad
					wantFault(t, l, place)
					l[n-1] = bads()[(k+place)%len(bads())]
					wantFault(t, l, place)
					l[place+(n-place)/2] = bads()[n%len(bads())]
					wantFault(t, l, place)
					wantFault(t, l[:place+1], place)
					wantFault(t, l[place:], 0)
				}
			}
		}
		wantFault(t, []api.Point{bad}, 0)
		wantFault(t, []api.Point{bad, bad}, 0)
		wantFault(t, []api.Point{bad, at(1, 1)}, 0)
		wantFault(t, []api.Point{at(1, 1), bad}, 1)
		wantFault(t, []api.Point{at(greatest, greatest), at(-greatest, 0), bad}, 2)
	}
	long := slices.Repeat(bowl(50), 200)
	for _, place := range []int{9999, 4097, 4096, 4095, 17, 1, 0} {
		long[place] = bads()[place%len(bads())]
		wantFault(t, long, place)
	}
}

// A fault is the caller's to change.
func TestFaultsApart(t *testing.T) {
	t.Parallel()
	l := append(bowl(3), bads()[0])
	for range 3 {
		wantFault(t, l, 3)
		for _, w := range ways() {
			_, e := w.hull(l)
			var f *api.Fault
			if errors.As(e, &f) {
				f.At, f.Err = 77, api.Range
			}
		}
	}
}

// What is handed in stays as it was, its order and its spare room too, be it
// right or wrong.
func TestHandedIn(t *testing.T) {
	t.Parallel()
	by := dice(12)
	room := slices.Concat(mixed(20, by), bowl(9), back(bowl(9)))
	for _, w := range ways() {
		checkUnchanged(t, w.told, room, func(l []api.Point) { w.hull(l) })
	}
}

// mixed: n points of a wheel, and others, some of which are alike, or have 0
// below 0; one isn't good.
func mixed(n int, by *rand.Rand) []api.Point {
	others := points(5, 5, noughtBelow, 0, 0, noughtBelow, -1e9, 0, 5, 5, 6, 6, 7, 7, noughtBelow, noughtBelow)
	return slices.Concat(shuffled(wheel(n), by), others, []api.Point{{X: infinite, Y: signBit}, at(-2e9, 0)})
}

// checkUnchanged: does what is asked of each run of the room's points leave all
// of the room as it was?
func checkUnchanged(t *testing.T, promise string, room []api.Point, ask func(l []api.Point)) {
	t.Helper()
	before := slices.Clone(room)
	for from := range len(room) {
		for to := from; to <= len(room); to++ {
			ask(room[from:to])
			if !slices.Equal(room, before) {
				t.Fatalf("%s: those from %d to %d: handed in was %s, is now %s", promise, from, to, seen(before...), seen(room...))
			}
		}
	}
}

// What is answered has memory of its own: to change it, its spare room too,
// changes neither what was handed in nor other answers.
func TestOwnMemory(t *testing.T) {
	t.Parallel()
	for n := range 40 {
		for _, l := range [][]api.Point{bowl(n), back(bowl(n)), slices.Repeat(points(1, 1), n), slices.Repeat(points(0, 0, 2, 2, 1, 1), n)[:n], append(slices.Repeat(points(0, 0), n), wheel(30)...)} {
			room := append(l, bads()...)
			for _, w := range ways() {
				checkApart(t, w, room, len(l))
			}
			wantHull(t, room[:len(l)], hullBySides(l))
		}
	}
}

// checkApart: do two answers of the first n points, and the room that these
// are handed in with, share no memory?
func checkApart(t *testing.T, w way, room []api.Point, n int) {
	t.Helper()
	before := slices.Clone(room)
	one, e := w.hull(room[:n])
	two, f := w.hull(room[:n])
	want := slices.Clone(two)
	if e != nil || f != nil || !slices.Equal(one, two) {
		t.Errorf("%s: Hull of %s: %v %v, or not the same twice", w.told, seen(room[:n]...), e, f)
	}
	one = one[:cap(one)]
	for k := range one {
		one[k] = bads()[0]
	}
	if !slices.Equal(room, before) || !slices.Equal(two, want) {
		t.Errorf("%s: Hull of %s shares memory", w.told, seen(before...))
	}
}
