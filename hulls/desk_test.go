package hulls_test

import (
	"math/big"
	"math/rand/v2"
	"slices"
	"testing"

	"outrigger/api"
	"outrigger/desk"
	"outrigger/ratio"
)

// wantDesk holds the hull that the desk tells, by each way, against what is
// wanted, bit by bit.
func wantDesk(t *testing.T, l, want []api.Point) {
	t.Helper()
	for n := range 4 {
		if h, e := desk.Hull(l, n); e != nil || !slices.Equal(h, want) {
			t.Errorf("P19.1: Hull of %s by way %d: %s %v, not %s", seen(l...), n, seen(h...), e, seen(want...))
		}
	}
}

// whereBySides: where a point lies of a right round, by layer 16's words: inside
// it lies to the left of all lines; of one corner, or two, nothing lies inside.
func whereBySides(h []api.Point, q api.Point) int {
	side := 1
	for i, p := range h {
		side = min(side, turnOf(p, h[(i+1)%len(h)], q))
	}
	switch {
	case len(h) == 0, side < 0, len(h) < 3 && (lexOf(q, h[0]) < 0 || lexOf(q, h[len(h)-1]) > 0):
		return api.Outside
	case side == 0:
		return api.Boundary
	}
	return api.Inside
}

// cornerSeen: the place of the right-hand corner (side -1) or the left-hand
// corner (side 1) for a point outside, by layer 14's words: no corner lies to
// that side of the line to it, or in that line, but farther; and whether another
// corner lies in that line.
func cornerSeen(h []api.Point, q api.Point, side int) (place int, inLine bool) {
	place = slices.IndexFunc(h, func(p api.Point) bool {
		return !slices.ContainsFunc(h, func(r api.Point) bool {
			turn := turnOf(q, p, r)
			return turn == side || turn == 0 && lexOf(q, p) == lexOf(p, r)
		})
	})
	if place < 0 {
		return place, false
	}
	return place, slices.ContainsFunc(h, func(r api.Point) bool { return r != h[place] && turnOf(q, h[place], r) == 0 })
}

// wantWhere holds where the desk says that a point lies against what is wanted.
func wantWhere(t *testing.T, l []api.Point, q api.Point, want int) {
	t.Helper()
	if where, e := desk.Contains(l, q); e != nil || where != want {
		t.Errorf("P19.2: Contains of %s, %s: %d %v, not %d", seen(l...), seen(q), where, e, want)
	}
}

// wantSeen holds what the desk says that a point sees against what is wanted.
func wantSeen(t *testing.T, l []api.Point, q api.Point, wantLeft, wantRight int) {
	t.Helper()
	if left, right, e := desk.Tangents(l, q); e != nil || left != wantLeft || right != wantRight {
		t.Errorf("P19.2: Tangents of %s, %s: %d %d %v, not %d and %d", seen(l...), seen(q), left, right, e, wantLeft, wantRight)
	}
}

// wantUnseen: is what the point sees refused by that code?
func wantUnseen(t *testing.T, l []api.Point, q api.Point, code api.Code) {
	t.Helper()
	left, right, e := desk.Tangents(l, q)
	if left != 0 || right != 0 || !isCode(e, code) {
		t.Errorf("P19.2: Tangents of %s, %s: %d %d %v, not %v", seen(l...), seen(q), left, right, e, code)
	}
}

// tally: how many points lay where, and for how many of those outside the
// corner, to the left and to the right, was the first one, the last one, and one
// of two in one line with the point, of three corners or more.
type tally struct {
	where, first, last, inLine [3]int
}

// checkPoint holds what the desk says of a point against the words, h being the
// hull.
func (n *tally) checkPoint(t *testing.T, l, h []api.Point, q api.Point) {
	t.Helper()
	where := whereBySides(h, q)
	wantWhere(t, l, q, where)
	n.where[where]++
	switch {
	case len(h) == 0:
		wantUnseen(t, l, q, api.EmptyHull)
	case where != api.Outside:
		wantUnseen(t, l, q, api.NoTangent)
	default:
		wantSeen(t, l, q, n.seen(h, q, 1), n.seen(h, q, -1))
	}
}

// seen: the place of the corner to that side, which it counts.
func (n *tally) seen(h []api.Point, q api.Point, side int) int {
	place, inLine := cornerSeen(h, q, side)
	for _, c := range []struct {
		counted bool
		in      *[3]int
	}{{place == 0, &n.first}, {place == len(h)-1, &n.last}, {inLine && len(h) > 2, &n.inLine}} {
		if c.counted {
			c.in[1+side]++
		}
	}
	return place
}

// isRightRatio: is it so much, in least terms?
func isRightRatio(r api.Ratio, want *big.Rat) bool {
	return ratio.Right(r) && ratOf(r).Cmp(want) == 0
}

// wantFar holds the farthest two corners that the desk tells against what is
// wanted.
func wantFar(t *testing.T, l []api.Point, want *big.Rat, wantI, wantJ int) {
	t.Helper()
	if far, i, j, e := desk.Diameter(l); e != nil || !isRightRatio(far, want) || i != wantI || j != wantJ {
		t.Errorf("P19.3: Diameter of %s: %v %d %d %v, not %v, %d and %d", seen(l...), far, i, j, e, want, wantI, wantJ)
	}
}

// wantNarrow holds the narrowest strip that the desk tells against what is
// wanted.
func wantNarrow(t *testing.T, l []api.Point, want *big.Rat) {
	t.Helper()
	if width, e := desk.Width(l); e != nil || !isRightRatio(width, want) {
		t.Errorf("P19.3: Width of %s: %v %v, not %v", seen(l...), width, e, want)
	}
}

// farBySides: the greatest square of how far two of all points lie apart, and of
// the corners of their hull that lie so far apart the least places.
func farBySides(l, h []api.Point) (far *big.Rat, i, j int) {
	far, farthest := farthestOf(l)
	var places [][2]int
	for _, p := range farthest {
		i, j := slices.Index(h, p[0]), slices.Index(h, p[1])
		places = append(places, [2]int{min(i, j), max(i, j)})
	}
	if len(places) == 0 {
		return far, 0, 0
	}
	least := slices.MinFunc(places, func(a, b [2]int) int { return slices.Compare(a[:], b[:]) })
	return far, least[0], least[1]
}

// widthByLines: the narrowest of the strips along all lines of a right round.
func widthByLines(h []api.Point) *big.Rat {
	c := cloudOf(h)
	if len(h) < 3 {
		return new(big.Rat)
	}
	place := func(k int) int { return slices.Index(c.points, h[k%len(h)]) }
	var least strip
	for k := range h {
		from, to := place(k), place(k+1)
		s := c.along(new(big.Int).Sub(c.x[to], c.x[from]), new(big.Int).Sub(c.y[to], c.y[from]))
		if s.isNarrower(least) {
			least = s
		}
	}
	return new(big.Rat).SetFrac(least.num.Lsh(least.num, 2*c.low), least.den.Lsh(least.den, 2*1074))
}

// checkSizes holds the sizes that the desk tells against those of all points, and
// of all lines of the hull, h being that.
func checkSizes(t *testing.T, l, h []api.Point) {
	t.Helper()
	far, i, j := farBySides(l, h)
	wantFar(t, l, far, i, j)
	wantNarrow(t, l, widthByLines(h))
}

// squareOf: the square of a float, so many times.
func squareOf(x float64, n int64) *big.Rat {
	square := new(big.Rat).SetFloat64(x)
	square.Mul(square, square)
	return square.Mul(square, big.NewRat(n, 1))
}

// The ten examples of the whole.
func TestDeskExamples(t *testing.T) {
	t.Parallel()
	three := points(0, 0, 1, 1, 0.5, 0.5+0x1p-53)
	square := points(2, 0, 0, 0, 2, 2, 1, 1, 0, 2, 1, 0)
	wantDesk(t, three, three)
	wantDesk(t, points(0, 0, 1, 1, 0.5, 0.5), points(0, 0, 1, 1))
	wantDesk(t, points(0, 0, noughtBelow, 0), points(0, 0))
	for _, c := range calls() {
		c.wantPlace(t, append(points(0, 0, 1, 1), api.Point{X: infinite | 1}), at(0, 0), 2)
	}
	wantFar(t, square, big.NewRat(8, 1), 0, 2)
	wantNarrow(t, square, big.NewRat(4, 1))
	wantWhere(t, square, at(2, 1), api.Boundary)
	wantSeen(t, square, at(4, 1), 1, 2)
	wantNarrow(t, points(0, 0, 3, 1, 1, 3), big.NewRat(32, 5))
	wantWhere(t, nil, at(0, 0), api.Outside)
	for _, c := range calls() {
		if c.name == "Diameter" {
			c.wantCode(t, nil, at(0, 0), api.EmptyHull)
		}
	}
	wantNoWay(t, square, 4)
}

// deskLists: lists of all kinds, and such as the document names.
func deskLists(by *rand.Rand) [][]api.Point {
	return append(allKinds(by), nil, []api.Point{},
		points(noughtBelow, noughtBelow), points(0, 1, noughtBelow, 1, 0, -1), points(1, 0, 1, noughtBelow, -1, 0), points(greatest, -greatest), points(least, least, least, least), points(-least, 0, least, 0, 0, 0),
		points(0, 0, greatest, least, greatest/2, 0), points(-greatest, -greatest, greatest, greatest, 0, 0, least, 0), points(0, 0, 0x1p-300, 0, 0, 0x1p900, 1, 1), row(noughtBelow, 0, 0x1p-1070, 0x1p-1071, 30), times(bowl(40), least), times(wheel(30), 0x1p1013))
}

// Lists of all kinds, in several orders, each more than once, by each way.
func TestDeskHull(t *testing.T) {
	t.Parallel()
	by := dice(70)
	for _, l := range deskLists(by) {
		want := hullBySides(l)
		for _, l := range [][]api.Point{l, back(l), shuffled(l, by), onceOf(l), signed(shuffled(append(slices.Clone(l), l...), by), by), want, allBelow(back(want))} {
			wantDesk(t, l, want)
		}
	}
}

// Just MaxPoints points, and one less, are answered.
func TestDeskMaxPoints(t *testing.T) {
	t.Parallel()
	by := dice(71)
	all := bowl(api.MaxPoints)
	long := row(-3, 1, 0.75, -0.25, api.MaxPoints)
	square := points(-1, -1, 1, -1, 1, 1, -1, 1)
	within := slices.Clone(square)
	for len(within) < api.MaxPoints {
		within = append(within, at(2*by.Float64()-1, 2*by.Float64()-1))
	}
	for _, c := range []struct {
		l, want     []api.Point
		q           api.Point
		left, right int
	}{
		{shuffled(all, by), all, at(0, -100), 2038, 2058}, {back(all), all, at(0, -100), 2038, 2058}, {shuffled(all[1:], by), all[1:], at(0, -100), 2037, 2057},
		{shuffled(long, by), []api.Point{long[0], long[api.MaxPoints-1]}, at(0, 5), 1, 0}, {slices.Repeat(points(noughtBelow, 3), api.MaxPoints), points(0, 3), at(7, 7), 0, 0},
		{slices.Repeat(square, api.MaxPoints/4), square, at(3, 0), 1, 2}, {shuffled(within, by), square, at(3, 0), 1, 2}, {back(within)[1:], square, at(-3, 0), 3, 0},
	} {
		wantDesk(t, c.l, c.want)
		wantSeen(t, c.l, c.q, c.left, c.right)
		wantWhere(t, c.l, c.q, api.Outside)
		wantWhere(t, c.l, c.want[len(c.want)-1], api.Boundary)
		wantUnseen(t, c.l, c.want[0], api.NoTangent)
	}
	wantWhere(t, all, at(0.25, 0.5), api.Inside)
	wantFar(t, shuffled(all, by), big.NewRat(2048*2048*(1+2048*2048), 1), 0, 2048)
	wantFar(t, shuffled(long, by), big.NewRat(10*4095*4095, 16), 0, 1)
	wantNarrow(t, shuffled(long, by), new(big.Rat))
	wantFar(t, shuffled(within, by), big.NewRat(8, 1), 0, 2)
	wantNarrow(t, shuffled(within, by), big.NewRat(4, 1))
}

// Points of which is asked, written out.
func TestDeskPoints(t *testing.T) {
	t.Parallel()
	square := points(1, 1, 2, 2, 0, 2, 0, 0, 2, 0, 1, 0, 2, 2)
	aslant := points(6, 2, 0, noughtBelow, 3, 1, -3, -1)
	for _, c := range []struct {
		l           []api.Point
		q           api.Point
		left, right int
	}{
		// One corner, and two: beside them, and in their line behind either.
		{points(3, 4), at(5, 5), 0, 0}, {points(3, 4, 3, 4), at(3, under(4)), 0, 0}, {points(0, 0, noughtBelow, 0), at(0, least), 0, 0},
		{points(2, 0, 1, 0, 0, 0), at(1, 1), 1, 0}, {points(2, 0, 1, 0, 0, 0), at(1, -least), 0, 1}, {points(2, 0, 1, 0, 0, 0), at(5, 0), 0, 0}, {points(2, 0, 1, 0, 0, 0), at(-least, noughtBelow), 1, 1}, {aslant, at(9, 3), 0, 0}, {aslant, at(-6, -2), 1, 1}, {aslant, at(3, over(1)), 1, 0}, {aslant, at(3, under(1)), 0, 1},
		// A square: from all sides, and in one line with two of its corners.
		{square, at(over(2), 1), 1, 2}, {square, at(1, -3), 0, 1}, {square, at(-1, 1), 3, 0}, {square, at(1, 5), 2, 3}, {square, at(5, 5), 1, 3}, {square, at(-1, -1), 3, 1},
		{square, at(4, 0), 0, 2}, {square, at(4, 2), 1, 3}, {square, at(-4, 0), 3, 1}, {square, at(-4, 2), 2, 0}, {square, at(0, 5), 2, 0}, {square, at(2, 5), 1, 3}, {square, at(0, -5), 3, 1}, {square, at(2, -5), 0, 2}, {square, at(noughtBelow, -least), 3, 1},
	} {
		wantSeen(t, c.l, c.q, c.left, c.right)
		wantWhere(t, c.l, c.q, api.Outside)
	}
	for _, c := range []struct {
		l     []api.Point
		q     api.Point
		where int
	}{
		{points(3, 4), at(3, 4), api.Boundary}, {points(noughtBelow, 0), at(0, noughtBelow), api.Boundary}, {points(2, 0, 0, 0), at(1, noughtBelow), api.Boundary}, {points(2, 0, 0, 0), at(noughtBelow, 0), api.Boundary}, {aslant, at(3, 1), api.Boundary}, {aslant, at(6, 2), api.Boundary},
		{square, at(1, 1), api.Inside}, {square, at(under(2), 1), api.Inside}, {square, at(least, least), api.Inside}, {square, at(2, 1), api.Boundary}, {square, at(2, 2), api.Boundary}, {square, at(noughtBelow, noughtBelow), api.Boundary}, {square, at(1, noughtBelow), api.Boundary}, {square, at(0, least), api.Boundary},
	} {
		wantWhere(t, c.l, c.q, c.where)
		wantUnseen(t, c.l, c.q, api.NoTangent)
	}
}

// Points by chance, and beside the points, their borders, and in line with
// them: by the words.
func TestDeskPointsByChance(t *testing.T) {
	t.Parallel()
	by := dice(72)
	var n tally
	for _, l := range deskLists(by) {
		h := hullBySides(l)
		l = shuffled(l, by)
		asked := points(0, 0, noughtBelow, 1, greatest, -greatest, least, 0)
		if len(l) > 0 {
			asked = append(asked, shuffled(append(besides(l, by), besides(h, by)...), by)[:min(40, 8*len(l))]...)
		}
		for _, q := range asked {
			n.checkPoint(t, l, h, q)
		}
	}
	if slices.Min(n.where[:]) < 1000 || min(n.first[0], n.first[2], n.last[0], n.last[2], n.inLine[0], n.inLine[2]) < 200 {
		t.Errorf("%v", n)
	}
}

// Sizes written out.
func TestDeskSizes(t *testing.T) {
	t.Parallel()
	square := points(2, 0, 0, 0, 2, 2, 1, 1, 0, 2, 1, 0)
	for _, c := range []struct {
		l     []api.Point
		far   *big.Rat
		i, j  int
		width *big.Rat
	}{
		{points(3, 4), new(big.Rat), 0, 0, new(big.Rat)}, {points(0, noughtBelow, noughtBelow, 0), new(big.Rat), 0, 0, new(big.Rat)},
		{points(3, 4, 0, 0), big.NewRat(25, 1), 0, 1, new(big.Rat)}, {points(6, 2, 0, noughtBelow, 3, 1, -3, -1), big.NewRat(90, 1), 0, 1, new(big.Rat)}, {points(0.5, 0, 0.25, 0, 0.75, 0), big.NewRat(1, 4), 0, 1, new(big.Rat)},
		// Several just as far apart, and just as narrow.
		{square, big.NewRat(8, 1), 0, 2, big.NewRat(4, 1)}, {points(1, 0, 0, 0, -1, 0, 0, 1, 0, -1), big.NewRat(4, 1), 0, 2, big.NewRat(2, 1)}, {points(0, 0, 5, 0, 4, 3, 3, 4, 0, 5, -3, 4), big.NewRat(80, 1), 0, 2, big.NewRat(225, 10)},
		// Beyond all floats, and below.
		{points(-greatest, -greatest, greatest, -greatest, greatest, greatest, -greatest, greatest, 0, 0), squareOf(greatest, 8), 0, 2, squareOf(greatest, 4)}, {points(greatest, 0, -greatest, 0), squareOf(greatest, 4), 0, 1, new(big.Rat)},
		{points(0, 0, least, 0, 0, least, least, least), squareOf(least, 2), 0, 2, squareOf(least, 1)},
	} {
		wantFar(t, c.l, c.far, c.i, c.j)
		wantNarrow(t, c.l, c.width)
		checkSizes(t, c.l, hullBySides(c.l))
	}
}

// Sizes of lists of all kinds: by all pairs of points, and all lines.
func TestDeskSizesByChance(t *testing.T) {
	t.Parallel()
	by := dice(73)
	for _, l := range deskLists(by) {
		if len(l) > 0 {
			checkSizes(t, signed(shuffled(l, by), by), hullBySides(l))
		}
	}
}
