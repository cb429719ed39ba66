package shape_test

import (
	"cmp"
	"errors"
	"fmt"
	"math"
	"math/big"
	"math/rand/v2"
	"slices"
	"testing"

	"outrigger/api"
	"outrigger/filter"
	"outrigger/shape"
)

const (
	greatest  = math.MaxFloat64
	least     = math.SmallestNonzeroFloat64
	leastHigh = 0x1p-1022 // the least normal float
	infinite  = uint64(2047) << 52
	signBit   = uint64(1) << 63
)

// noughtBelow: 0 below 0.
var noughtBelow = math.Copysign(0, -1)

func at(x, y float64) api.Point {
	return api.Point{X: math.Float64bits(x), Y: math.Float64bits(y)}
}

// round: points of these coordinates, x and y by turns.
func round(numbers ...float64) (h []api.Point) {
	for i := 0; i < len(numbers); i += 2 {
		h = append(h, at(numbers[i], numbers[i+1]))
	}
	return h
}

// over and under: one float beside.
func over(x float64) float64  { return math.Nextafter(x, math.Inf(1)) }
func under(x float64) float64 { return math.Nextafter(x, math.Inf(-1)) }

// seen: the coordinates, for a remark; of a long list those that begin it.
func seen(points ...api.Point) string {
	text := fmt.Sprintf("%d: ", len(points))
	for _, p := range points[:min(len(points), 40)] {
		text += fmt.Sprintf("(%x, %x) ", math.Float64frombits(p.X), math.Float64frombits(p.Y))
	}
	return text
}

// moved: a point so much greater, each coordinate by itself, and moved.
func moved(p api.Point, timesX, timesY, moreX, moreY float64) api.Point {
	return at(math.Float64frombits(p.X)*timesX+moreX, math.Float64frombits(p.Y)*timesY+moreY)
}

// times: both coordinates of all points so often; by a power of two that
// loses nothing, where none ends below the least float or above the greatest.
func times(h []api.Point, n float64) (list []api.Point) {
	for _, p := range h {
		list = append(list, moved(p, n, n, 0, 0))
	}
	return list
}

// number: the number that finite bits are, times 2^1074, which makes it
// whole; by the document's words (layer 5).
func number(b uint64) *big.Int {
	e, f := b>>52&2047, b&(1<<52-1)
	if e > 0 {
		f |= 1 << 52
		e--
	}
	x := new(big.Int).SetUint64(f)
	x.Lsh(x, uint(e))
	if b&signBit != 0 {
		x.Neg(x)
	}
	return x
}

// product: (p - q)(t - u), times 2^2148.
func product(p, q, t, u uint64) *big.Int {
	x, y := new(big.Int).Sub(number(p), number(q)), new(big.Int).Sub(number(t), number(u))
	return x.Mul(x, y)
}

// turnOf: the turn, by layer 7's words.
func turnOf(a, b, c api.Point) int {
	return product(a.X, c.X, b.Y, c.Y).Cmp(product(a.Y, c.Y, b.X, c.X))
}

// lexOf: which of two is lexicographically less. (Floats that are finite are
// held against each other exactly.)
func lexOf(a, b api.Point) int {
	f := math.Float64frombits
	return cmp.Or(cmp.Compare(f(a.X), f(b.X)), cmp.Compare(f(a.Y), f(b.Y)))
}

// normOf: the point, each 0 below 0 as 0.
func normOf(p api.Point) api.Point {
	if p.X == signBit {
		p.X = 0
	}
	if p.Y == signBit {
		p.Y = 0
	}
	return p
}

// isGood: are both bits finite?
func isGood(p api.Point) bool {
	return p.X&infinite != infinite && p.Y&infinite != infinite
}

// inSegment: does p lie between a and b, or as one of them?
func inSegment(p, a, b api.Point) bool {
	return turnOf(a, b, p) == 0 && lexOf(p, a)*lexOf(p, b) <= 0
}

// inTriangle: does p lie in the triangle, its border counted in? Where that is
// but a line, its segments are all of it.
func inTriangle(p, a, b, c api.Point) bool {
	way := turnOf(a, b, c)
	if way == 0 {
		return inSegment(p, a, b) || inSegment(p, b, c) || inSegment(p, c, a)
	}
	return turnOf(a, b, p)*way >= 0 && turnOf(b, c, p)*way >= 0 && turnOf(c, a, p)*way >= 0
}

// heldBy: does p lie in one of the points, in a segment of two, or in a
// triangle of three?
func heldBy(l []api.Point, p api.Point) bool {
	for i, a := range l {
		if lexOf(p, a) == 0 {
			return true
		}
		for k, b := range l[:i] {
			if inSegment(p, a, b) {
				return true
			}
			for _, c := range l[:k] {
				if inTriangle(p, a, b, c) {
					return true
				}
			}
		}
	}
	return false
}

// hullOf: the hull of good points, by the words of layer 10: those that no
// others hold, in their order to the left around the least.
func hullOf(l []api.Point) (hull []api.Point) {
	var once []api.Point
	for _, p := range l {
		once = append(once, normOf(p))
	}
	slices.SortFunc(once, lexOf)
	once = slices.Compact(once)
	for i, p := range once {
		if !heldBy(slices.Delete(slices.Clone(once), i, i+1), p) {
			hull = append(hull, p)
		}
	}
	if len(hull) > 2 {
		slices.SortFunc(hull[1:], func(a, b api.Point) int { return -turnOf(hull[0], a, b) })
	}
	return hull
}

// rightByHull: is the round the hull of itself?
func rightByHull(h []api.Point) bool {
	for _, p := range h {
		if !isGood(p) {
			return false
		}
	}
	return slices.Equal(h, hullOf(h))
}

// rightByLines: the same, for long rounds too: the first point is the least
// one, and each line has all other points to its left.
func rightByLines(h []api.Point) bool {
	for i, p := range h {
		if !isGood(p) || p != normOf(p) || i > 0 && lexOf(h[0], p) >= 0 {
			return false
		}
		for k := 2; k < len(h); k++ {
			if turnOf(p, h[(i+1)%len(h)], h[(i+k)%len(h)]) <= 0 {
				return false
			}
		}
	}
	return true
}

// holdsOf: what Holds tells, by its words.
func holdsOf(h []api.Point, p api.Point) bool {
	switch len(h) {
	case 0:
		return false
	case 1:
		return lexOf(h[0], p) == 0
	case 2:
		return inSegment(p, h[0], h[1])
	}
	for i := range h {
		if turnOf(h[i], h[(i+1)%len(h)], p) < 0 {
			return false
		}
	}
	return true
}

// startOf: what Start tells, by its words.
func startOf(h []api.Point) []api.Point {
	for i, p := range h {
		if !slices.ContainsFunc(h, func(q api.Point) bool { return lexOf(q, p) < 0 }) {
			return turned(h, i)
		}
	}
	return nil
}

// turned: the round, begun at that place.
func turned(h []api.Point, place int) []api.Point {
	return append(slices.Clone(h[place:]), h[:place]...)
}

// back: the round, the other way round, begun at the same point.
func back(h []api.Point) []api.Point {
	h = slices.Clone(h)
	if len(h) > 0 {
		slices.Reverse(h[1:])
	}
	return h
}

// wantRight holds Right against what is wanted.
func wantRight(t *testing.T, h []api.Point, want bool) {
	t.Helper()
	if shape.Right(h) != want {
		t.Errorf("P10.1: Right of %s: %v", seen(h...), !want)
	}
}

// wantStart holds Start against what is wanted, bit by bit.
func wantStart(t *testing.T, h, want []api.Point) {
	t.Helper()
	if s, e := shape.Start(h); e != nil || !slices.Equal(s, want) {
		t.Errorf("P10.2: Start of %s: %s %v, not %s", seen(h...), seen(s...), e, seen(want...))
	}
}

// wantHolds holds Holds against what is wanted.
func wantHolds(t *testing.T, h []api.Point, p api.Point, want bool) {
	t.Helper()
	if is, e := shape.Holds(h, p); e != nil || is != want {
		t.Errorf("P10.3: Holds of %s, %s: %v %v", seen(h...), seen(p), is, e)
	}
}

// checkRound holds a right round, begun anywhere and the other way round,
// against what must be so of it.
func checkRound(t *testing.T, h []api.Point) {
	t.Helper()
	wantRight(t, h, true)
	for i, p := range h {
		other := turned(h, i)
		wantRight(t, other, i == 0)
		wantStart(t, other, h)
		wantHolds(t, other, p, true)
		wantHolds(t, back(other), p, len(h) <= 2)
		wantRight(t, back(other), i == 0 && len(h) <= 2)
		wantStart(t, back(other), back(h))
	}
}

// dice: the same numbers in each run.
func dice(seed uint64) *rand.Rand { return rand.New(rand.NewPCG(seed, 10)) }

// bowl: a right round of n points of whole numbers, all with y = x^2.
func bowl(n int) (h []api.Point) {
	for i := range n {
		x := float64(i - n/2)
		h = append(h, at(x, x*x))
	}
	return h
}

// wheel: a right round of n points, at least three, beside a circle.
func wheel(n int) (h []api.Point) {
	for i := range n {
		sin, cos := math.Sincos(2 * math.Pi * float64(i) / float64(n))
		h = append(h, at(1000*cos, 1000*sin))
	}
	return startOf(h)
}

// rounds: right ones, of none to some dozens of points, small and great, above
// 0 and below, and of very unlike sizes.
func rounds() [][]api.Point {
	list := [][]api.Point{
		nil, {}, round(0, 0), round(-3, 7), round(greatest, -least),
		round(0, 0, 1, 0), round(0, 0, 0, 1), round(0, -least, 0, least), round(-greatest, greatest, greatest, -greatest), round(1, 1, 1, over(1)), round(1, 5, over(1), -5),
		round(0, 0, 1, 0, 0, 1), round(0, 0, 2, 0, 2, 2, 0, 2), round(-1, 0, 0, -1, 1, 0, 0, 1), round(0, 0, 3, 1, 1, 3), round(-5, -7, -4, -9, -1, -8, -2, -3), round(0, -1, 5, -9, 0, 3),
		round(0, 0, 1, -2, 1, 2), round(0, 0, 1, 1, 0, 1), round(0, -1, 7, 0, 0, 1), round(-4, 0, -3, -2, 0, -3, 3, -2, 4, 0, 3, 2, 0, 3, -3, 2),
		round(-greatest, -greatest, greatest, -greatest, greatest, greatest, -greatest, greatest), round(0, 0, least, 0, least, least, 0, least), round(0, 0, greatest, least, greatest, 2*least), round(-greatest, 0, 0, -least, greatest, 0, 0, least), round(-1e200, 1e-200, 1e-200, -1e200, 1e200, 1e100), round(0, 0, 1, 1, 0.5, 0.5+0x1p-53), round(0, 0, 0.5, 0.5-0x1p-54, 1, 1),
		round(1, 1, over(1), 1, 1, over(1)), round(1, 1, over(1), 1, over(1), over(1), 1, over(1)), round(-leastHigh, 0, 0, -leastHigh, least, 0), round(-1, 0, -1e-300, -1e-300, 1e-300, -1e-300, 1, 0, 1e-300, 1e-300, -1e-300, 1e-300),
	}
	for n := 1; n <= 48; n += 1 + n/12 {
		list = append(list, bowl(n), times(bowl(n), 0x1p-1074), times(bowl(n), 0x1p1009))
		if n >= 3 {
			list = append(list, wheel(n), times(wheel(n), 0x1p-540), times(wheel(n), 0x1p1000))
		}
	}
	return append(list, chancy()...)
}

// chancy: hulls of points by chance, of like sizes and of very unlike ones.
func chancy() (list [][]api.Point) {
	by := dice(1)
	for n := range 90 {
		var l []api.Point
		size := math.Ldexp(1, by.IntN(1900)-950)
		for range 3 + by.IntN(8) {
			switch n % 3 {
			case 0:
				l = append(l, at(float64(by.IntN(9)-4)*size, float64(by.IntN(9)-4)*size))
			case 1:
				l = append(l, at((by.Float64()-0.5)*size, (by.Float64()-0.5)*size))
			default:
				l = append(l, at(math.Ldexp(by.Float64()-0.5, by.IntN(2000)-1000), math.Ldexp(by.Float64()-0.5, by.IntN(2000)-1000)))
			}
		}
		list = append(list, hullOf(l))
	}
	return list
}

// What tests go by is itself right: the lines and the hull tell the same.
func TestRounds(t *testing.T) {
	for _, h := range rounds() {
		if len(h) <= 12 && !rightByHull(h) || !rightByLines(h) {
			t.Errorf("%s is no right round", seen(h...))
		}
	}
	for n := 3; n < 60; n++ {
		if len(wheel(n)) != n {
			t.Errorf("a wheel of %d has %d", n, len(wheel(n)))
		}
	}
}

func TestRight(t *testing.T) {
	for _, h := range rounds() {
		checkRound(t, h)
	}
	checkRound(t, round(0, 0, 1, 0, 0, 1))
	wantRight(t, round(1, 0, 0, 1, 0, 0), false)
	wantStart(t, round(1, 0, 0, 1, 0, 0), round(0, 0, 1, 0, 0, 1))
}

// wrongRounds: such as aren't right, but are of good points that are their Norm.
func wrongRounds() [][]api.Point {
	return [][]api.Point{
		// Two: that fall, that are alike, of like x.
		round(1, 0, 0, 0), round(0, 1, 0, 0), round(3, 3, 3, 3), round(0, 0, 0, 0), round(0, least, 0, -least), round(over(1), -5, 1, 5), round(greatest, 0, -greatest, 0),
		// Three and more in one line: rising, falling, upright, there and back.
		round(0, 0, 1, 1, 2, 2), round(0, 0, 2, 2, 1, 1), round(0, 0, 0, 1, 0, 2), round(0, 0, 1, 0, 2, 0, 1, 0), round(0, 0, 1, 0, 2, 0, 3, 0), round(0, 0, 0, 3, 0, 2, 0, 1), round(-greatest, -greatest, 0, 0, greatest, greatest), round(-least, 0, 0, 0, least, 0), round(-3, -1, 0, 0, 3, 1, 6, 2),
		// A corner twice in a row, at each place.
		round(0, 0, 0, 0, 2, 0, 2, 2), round(0, 0, 2, 0, 2, 0, 2, 2), round(0, 0, 2, 0, 2, 2, 2, 2), round(0, 0, 2, 0, 2, 2, 0, 0), round(0, 0, 0, 0, 0, 0), round(0, 0, 0, 0, 1, 1), round(0, 0, 1, 1, 1, 1), round(0, 0, 1, 1, 0, 0),
		// Twice apart.
		round(0, 0, 2, 0, 0, 0, 2, 2), round(0, 0, 2, 0, 2, 2, 2, 0), round(0, 0, 4, 0, 2, 1, 4, 4, 2, 1, 0, 4), round(0, 0, 2, 0, 1, 3, 2, 0, 2, 2), round(0, 0, 1, 0, 0, 0, 1, 0),
		// A point on a border: below, to the right, above, to the left, aslant.
		round(0, 0, 1, 0, 2, 0, 2, 2, 0, 2), round(0, 0, 2, 0, 2, 1, 2, 2, 0, 2), round(0, 0, 2, 0, 2, 2, 1, 2, 0, 2), round(0, 0, 2, 0, 2, 2, 0, 2, 0, 1), round(0, 0, 2, 1, 4, 2, 1, 4), round(0, 0, 4, 2, 3, 3, 2, 4), round(0, 0, 3, 0, 4, 4, 2, 2),
		// To the right once, on each side, or within.
		round(0, 0, 1, 0.25, 2, 0, 2, 2, 0, 2), round(0, 0, 2, 0, 1.75, 1, 2, 2, 0, 2), round(0, 0, 2, 0, 2, 2, 1, 1.75, 0, 2), round(0, 0, 2, 0, 2, 2, 0, 2, 0.25, 1), round(0, 0, 4, 0, 1, 1, 0, 4), round(0, 0, 2, 0, 2, 2, 0, 2, 1, 1), round(0, 0, 1, 1, 2, 0, 2, 2),
		// To the right alone.
		round(0, 0, 0, 1, 1, 0), round(0, 0, 0, 2, 2, 2, 2, 0), round(0, 0, 1, 3, 3, 1), round(-4, 0, -3, 2, 0, 3, 3, 2, 4, 0, 3, -2, 0, -3, -3, -2),
		// From another corner than the least: of like x, higher; to its right.
		round(0, 2, 0, 0, 2, 0, 2, 2), round(0, 1, 0, 0, 1, 0), round(-1, 3, -1, 2, 4, 0, 4, 9), round(2, 0, 2, 2, 0, 2, 0, 0), round(2, 2, 0, 2, 0, 0, 2, 0), round(0, least, 0, 0, least, 0),
		// Round a corner the other way: it crosses itself, turning both ways.
		round(0, 0, 2, 2, 2, 0, 0, 2), round(0, 0, 2, 0, 0, 2, 2, 2), round(0, 0, 2, 2, 0, 2, 2, 0),
	}
}

func TestWrong(t *testing.T) {
	for _, h := range wrongRounds() {
		if rightByHull(h) || rightByLines(h) {
			t.Errorf("%s is a right round", seen(h...))
		}
		wantRight(t, h, false)
		wantRight(t, times(h, 0x1p1000), rightByHull(times(h, 0x1p1000)))
		for i := range h {
			wantRight(t, turned(h, i), rightByHull(turned(h, i)))
			wantRight(t, back(turned(h, i)), rightByHull(back(turned(h, i))))
			wantStart(t, turned(h, i), startOf(turned(h, i)))
		}
	}
}

// turnsLeftAlone: does each three turn to the left?
func turnsLeftAlone(h []api.Point) bool {
	for i, p := range h {
		if turnOf(p, h[(i+1)%len(h)], h[(i+2)%len(h)]) <= 0 {
			return false
		}
	}
	return true
}

// Rounds that turn to the left alone, but go round more than once: from each
// corner on to the one so many places farther, and right ones many times.
func TestMoreThanOnce(t *testing.T) {
	for n := 3; n <= 48; n += 1 + n/10 {
		for _, one := range [][]api.Point{wheel(n), bowl(n)} {
			for step := 2; step <= n/2; step++ {
				var star []api.Point
				for i := range n {
					star = append(star, one[i*step%n])
				}
				// Where it goes into n, it is a lesser round, many times.
				if turnsLeftAlone(star) != (2*step < n) {
					t.Errorf("each %d of %s: turns other ways", step, seen(one...))
				}
				wantRight(t, star, false)
				wantRight(t, turned(star, n/2), false)
			}
			for many := 2; many < 5; many++ {
				wantRight(t, slices.Repeat(one, many), false)
				wantRight(t, append(slices.Repeat(one, many), one[:n-1]...), false)
			}
		}
	}
	// Twice round, within and then without.
	twice := round(0, 0, 10, -1, 10, 10, 1, 9, 1, 1, 8, 0.5, 9, 9, -0.5, 11)
	if !turnsLeftAlone(twice) {
		t.Errorf("%s turns other ways", seen(twice...))
	}
	for i := range twice {
		wantRight(t, turned(twice, i), false)
	}
}

// Each round of up to six of the points of a grid, by the hull of those that
// occur: all ways that few points can lie to one another.
func TestRightFew(t *testing.T) {
	var grid []api.Point
	for i := range 9 {
		grid = append(grid, at(float64(i/3-1), float64(i%3-1)))
	}
	hulls := make([][]api.Point, 1<<len(grid))
	for mask := range hulls {
		var l []api.Point
		for i, p := range grid {
			if mask>>i&1 == 1 {
				l = append(l, p)
			}
		}
		hulls[mask] = hullOf(l)
	}
	many := 0
	var extend func(h []api.Point, mask int)
	extend = func(h []api.Point, mask int) {
		right := slices.Equal(h, hulls[mask])
		if right {
			many++
		}
		wantRight(t, h, right)
		if len(h) == 6 {
			return
		}
		for i, p := range grid {
			extend(append(h, p), mask|1<<i)
		}
	}
	extend(make([]api.Point, 0, 6), 0)
	if many < 150 {
		t.Errorf("right are %d alone", many)
	}
}

// Of a round that is right, or not, each of a grid around it.
func TestHoldsFew(t *testing.T) {
	var grid []api.Point
	for i := range 16 {
		grid = append(grid, at(float64(i/4-1), float64(i%4-1)))
	}
	turns := map[[3]api.Point]int{}
	for _, a := range grid {
		for _, b := range grid {
			for _, c := range grid {
				turns[[3]api.Point{a, b, c}] = turnOf(a, b, c)
			}
		}
	}
	for n := range 256 {
		h := []api.Point{grid[n/16], grid[n%16]}
		for _, p := range grid {
			want := turns[[3]api.Point{h[0], h[1], p}] == 0 && lexOf(p, h[0])*lexOf(p, h[1]) <= 0
			wantHolds(t, h, p, want)
			wantHolds(t, h[:1], p, p == h[0])
		}
		for k := range 256 {
			h := append(h[:2:2], grid[k/16], grid[k%16])
			p := grid[(n*7+k*5)%16]
			three, four := true, true
			for i := range 3 {
				three = three && turns[[3]api.Point{h[i], h[(i+1)%3], p}] >= 0
			}
			for i := range 4 {
				four = four && turns[[3]api.Point{h[i], h[(i+1)%4], p}] >= 0
			}
			wantHolds(t, h[:3], p, three)
			wantHolds(t, h, p, four)
		}
	}
}

// Points that aren't their Norm: wherever a right round has a 0, 0 below 0
// makes it wrong; Start leaves it, and Holds takes it for 0.
func TestNoughtBelow(t *testing.T) {
	seenOne := 0
	for _, h := range rounds() {
		for i := range h {
			for _, bits := range []api.Point{{X: signBit}, {Y: signBit}, {X: signBit, Y: signBit}} {
				below := slices.Clone(h)
				if below[i].X == 0 {
					below[i].X |= bits.X
				}
				if below[i].Y == 0 {
					below[i].Y |= bits.Y
				}
				if slices.Equal(below, h) {
					continue
				}
				seenOne++
				wantRight(t, below, false)
				wantStart(t, turned(below, i), startOf(turned(below, i)))
				for _, p := range append(h[:min(len(h), 8):min(len(h), 8)], below[i], at(noughtBelow, noughtBelow), at(0, 0)) {
					want := holdsOf(h, p)
					wantHolds(t, below, p, want)
					wantHolds(t, h, p, want)
				}
			}
		}
	}
	if seenOne < 50 {
		t.Errorf("%d of 0 below 0 alone", seenOne)
	}
	for _, p := range round(noughtBelow, 0, 0, noughtBelow, noughtBelow, noughtBelow, noughtBelow, 5, -5, noughtBelow) {
		wantRight(t, []api.Point{p}, false)
		wantRight(t, []api.Point{at(-9, 9), p}, false)
		wantRight(t, []api.Point{normOf(p)}, true)
		wantHolds(t, []api.Point{p}, normOf(p), true)
		wantHolds(t, []api.Point{normOf(p)}, p, true)
	}
	// Two that differ in a 0 below 0 alone neither rise, nor fall.
	wantRight(t, round(noughtBelow, 0, 0, 0), false)
	wantRight(t, round(0, 0, 0, noughtBelow), false)
	wantRight(t, round(0, 0, noughtBelow, 1), false)
}

// bads: bits that are none, infinite ones and others, of both signs, as X, as Y, and as both.
func bads() (list []api.Point) {
	for _, b := range []uint64{infinite, infinite | 1, infinite | 1<<51, infinite | (1<<52 - 1), math.Float64bits(math.NaN())} {
		for _, b := range []uint64{b, b | signBit} {
			list = append(list, api.Point{X: b}, api.Point{Y: b}, api.Point{X: signBit, Y: b}, api.Point{X: b, Y: math.Float64bits(-5)}, api.Point{X: b, Y: infinite}, api.Point{X: math.Float64bits(greatest), Y: b})
		}
	}
	return list
}

// faultAt: is it a fault of BadPoint, and nothing else, at that place, and
// told as the document says faults are?
func faultAt(e error, place int) bool {
	var f *api.Fault
	var c api.Code
	return errors.As(e, &f) && f.At == place && f.Err != nil && f.Err == api.BadPoint &&
		errors.As(e, &c) && c == api.BadPoint && errors.Is(e, api.BadPoint) && e.Error() == fmt.Sprintf("%d: E1", place)
}

// wantFaults: do Start of a round, and Holds of it, tell that place, and nothing beside it?
func wantFaults(t *testing.T, h []api.Point, p api.Point, place int) {
	t.Helper()
	if is, e := shape.Holds(h, p); is || !faultAt(e, place) {
		t.Errorf("P10.3: Holds of %s, %s: %v %v, not at %d", seen(h...), seen(p), is, e, place)
	}
	if place == len(h) {
		return
	}
	if s, e := shape.Start(h); len(s) != 0 || !faultAt(e, place) {
		t.Errorf("P10.2: Start of %s: %s %v, not at %d", seen(h...), seen(s...), e, place)
	}
	wantRight(t, h, false)
}

// One that isn't good, at the first place, the last one, and each other, and
// such behind it: the first is told.
func TestBadPoints(t *testing.T) {
	for k, bad := range bads() {
		for _, n := range []int{1, 2, 3, 4, 9, 40} {
			for place := range n {
				h := bowl(n)
				h[place] = bad
				wantFaults(t, h, at(0, 1), place)
				wantFaults(t, h, bad, place)
				h[n-1] = bads()[(k+place)%len(bads())]
				wantFaults(t, h, at(0, 1), place)
				h[place+(n-place)/2] = bads()[n]
				wantFaults(t, h, h[place], place)
			}
		}
	}
	long := slices.Repeat(wheel(50), 200)
	for _, place := range []int{9999, 4097, 4096, 4095, 17, 1, 0} {
		long[place] = bads()[place%len(bads())]
		wantFaults(t, long, at(0, 0), place)
	}
}

// p counts behind the points: alone wrong it is told there, be the round
// right, or not, and of none, too.
func TestBadAsked(t *testing.T) {
	list := append(rounds()[:40], wrongRounds()...)
	list = append(list, slices.Repeat(wheel(50), 200))
	for _, bad := range bads() {
		for _, h := range list {
			wantFaults(t, h, bad, len(h))
		}
	}
}

// A fault is the caller's to change.
func TestFaultsApart(t *testing.T) {
	for range 3 {
		_, e := shape.Start(append(bowl(3), bads()[0]))
		_, e2 := shape.Holds(bowl(3), bads()[1])
		for _, e := range []error{e, e2} {
			var f *api.Fault
			if !faultAt(e, 3) || !errors.As(e, &f) {
				t.Fatalf("P10.3: a fault, changed: %v", e)
			}
			f.At, f.Err = 77, api.Range
		}
	}
}

// Points in a border, and one float beside it, within and without: floats
// aren't sure, and of each size the round is right without the point in the
// border, and isn't with it.
func TestBesideLine(t *testing.T) {
	blind := 0
	for _, c := range []struct {
		h   []api.Point // from the first point to the second one the border goes, above it lies the round
		mid api.Point
	}{
		{round(0, 0, 1, 1, 0, 1), at(0.5, 0.5)}, {round(-3, -1, 6, 2, 0, 9), at(3, 1)}, {round(-5, 4, 7, -4, 8, 8), at(-2, 2)}, {round(-1, 1, 1, 1.25, 0, 3, -0.5, 2.5), at(0.5, 1.1875)}, {round(-64, 1, 66, 1.5, 1, 7), at(1, 1.25)}, {round(-64, 0, 3, 0, 1, 1), at(0.75, 0)}, {round(0, 0, 3, 1, 1, 2), at(1.5, 0.5)},
	} {
		for power := -1000; power <= 1000; power += 40 {
			n := math.Ldexp(1, power)
			h, mid := times(c.h, n), times([]api.Point{c.mid}, n)[0]
			y := math.Float64frombits(mid.Y)
			within, without := mid, mid
			within.Y, without.Y = math.Float64bits(over(y)), math.Float64bits(under(y))
			for _, p := range []api.Point{mid, within, without} {
				if _, sure := filter.Turn(h[0], h[1], p); !sure {
					blind++
				}
			}
			checkRound(t, h)
			wantHolds(t, h, mid, true)
			wantHolds(t, h, within, true)
			wantHolds(t, h, without, false)
			wantRight(t, slices.Insert(slices.Clone(h), 1, mid), false)
			wantRight(t, slices.Insert(slices.Clone(h), 1, within), false)
			checkRound(t, slices.Insert(slices.Clone(h), 1, without))
			for _, two := range [][]api.Point{{h[0], h[1]}, {h[1], h[0]}} {
				wantHolds(t, two, mid, true)
				wantHolds(t, two, within, false)
				wantHolds(t, two, without, false)
			}
			// Where the border goes there and back, a right round of three lies flat.
			checkRound(t, []api.Point{h[0], h[1], within})
			checkRound(t, []api.Point{h[0], without, h[1]})
			wantRight(t, []api.Point{h[0], h[1], mid}, false)
			wantRight(t, []api.Point{h[0], mid, h[1]}, false)
		}
	}
	if blind < 500 {
		t.Errorf("P10.1: floats are sure but of %d", blind)
	}
}

func TestStart(t *testing.T) {
	for _, c := range []struct{ h, want []api.Point }{
		{nil, nil}, {[]api.Point{}, nil}, {round(7, -3), round(7, -3)}, {round(noughtBelow, noughtBelow), round(noughtBelow, noughtBelow)},
		{round(1, 0, 0, 1, 0, 0), round(0, 0, 1, 0, 0, 1)}, {round(0, 0, 1, 0, 0, 1), round(0, 0, 1, 0, 0, 1)}, {round(2, 0, 0, 0, 5, 5), round(0, 0, 5, 5, 2, 0)}, {round(2, 0, 5, 5, 0, 0), round(0, 0, 2, 0, 5, 5)},
		{round(1, 5, 1, -5), round(1, -5, 1, 5)}, {round(1, -5, 1, 5), round(1, -5, 1, 5)}, {round(over(1), -9, 1, 9), round(1, 9, over(1), -9)},
		// The least one many times: from the first of these on.
		{round(2, 2, 0, 2, 0, 0, 2, 0, 0, 0), round(0, 0, 2, 0, 0, 0, 2, 2, 0, 2)}, {round(0, 0, 1, 1, 0, 0, 2, 2), round(0, 0, 1, 1, 0, 0, 2, 2)}, {round(3, 3, 0, 0, 0, 0, 1, 1), round(0, 0, 0, 0, 1, 1, 3, 3)}, {round(4, 4, 4, 4, 4, 4), round(4, 4, 4, 4, 4, 4)}, {round(0, 0, 5, 5, 0, 0), round(0, 0, 5, 5, 0, 0)},
		// As 0 and as 0 below 0, each with its own bits.
		{round(1, 1, noughtBelow, 0, 2, 2, 0, 0), round(noughtBelow, 0, 2, 2, 0, 0, 1, 1)}, {round(1, 1, 0, 0, 2, 2, noughtBelow, 0), round(0, 0, 2, 2, noughtBelow, 0, 1, 1)}, {round(0, noughtBelow, 0, 0, noughtBelow, 0), round(0, noughtBelow, 0, 0, noughtBelow, 0)}, {round(5, noughtBelow, 0, noughtBelow, noughtBelow, noughtBelow, 0, 0), round(0, noughtBelow, noughtBelow, noughtBelow, 0, 0, 5, noughtBelow)}, {round(noughtBelow, 3, 0, -3, noughtBelow, -3, 0, 3), round(0, -3, noughtBelow, -3, 0, 3, noughtBelow, 3)}, {round(noughtBelow, 3, 0, 2), round(0, 2, noughtBelow, 3)},
		{round(0, 0, -least, greatest, least, -greatest, -least, 0), round(-least, 0, 0, 0, -least, greatest, least, -greatest)}, {round(greatest, 0, -greatest, 0, -greatest, -least), round(-greatest, -least, greatest, 0, -greatest, 0)}, {round(-1, 0, under(-1), 0, over(-1), 0), round(under(-1), 0, over(-1), 0, -1, 0)},
	} {
		wantStart(t, c.h, c.want)
		if !slices.Equal(c.want, startOf(c.h)) {
			t.Errorf("%s isn't the start of %s", seen(c.want...), seen(c.h...))
		}
	}
}

// Lists of few points many times, among them 0 below 0, of many lengths.
func TestStartChance(t *testing.T) {
	by := dice(2)
	few := []float64{0, noughtBelow, 1, -1, least, -least, 1e200}
	for n := range 400 {
		var h []api.Point
		for range n % 40 {
			h = append(h, at(few[by.IntN(1+n%7)], few[by.IntN(len(few))]))
		}
		wantStart(t, h, startOf(h))
	}
	long := slices.Repeat(wheel(50), 200)
	long = append(long[333:], long[:333]...)
	wantStart(t, long, startOf(long))
	long[7000].X = math.Float64bits(-1e9)
	wantStart(t, long, turned(long, 7000))
}

func TestHolds(t *testing.T) {
	square, slant := round(0, 0, 2, 0, 2, 2, 0, 2), round(-3, -1, 6, 2, 0, 9)
	for _, c := range []struct {
		h    []api.Point
		p    api.Point
		want bool
	}{
		{nil, at(0, 0), false}, {[]api.Point{}, at(1, 1), false}, {nil, at(noughtBelow, 0), false},
		// One: alike, in a 0 below 0 unlike, another.
		{round(3, 4), at(3, 4), true}, {round(3, 4), at(4, 3), false}, {round(3, 4), at(3, over(4)), false}, {round(3, 4), at(under(3), 4), false}, {round(0, 0), at(noughtBelow, noughtBelow), true}, {round(noughtBelow, 7), at(0, 7), true}, {round(7, 0), at(7, noughtBelow), true}, {round(0, 0), at(least, 0), false}, {round(noughtBelow, 0), at(0, -least), false},
		// Two: at both ends, between, beside, beyond.
		{round(0, 0, 2, 0), at(0, 0), true}, {round(0, 0, 2, 0), at(2, 0), true}, {round(0, 0, 2, 0), at(1, 0), true}, {round(0, 0, 2, 0), at(1, noughtBelow), true}, {round(0, 0, 2, 0), at(1, least), false}, {round(0, 0, 2, 0), at(1, -least), false}, {round(0, 0, 2, 0), at(over(2), 0), false}, {round(0, 0, 2, 0), at(-least, 0), false}, {round(0, 0, 2, 0), at(3, 0), false}, {round(2, 0, 0, 0), at(1, 0), true}, {round(2, 0, 0, 0), at(3, 0), false}, {round(2, 0, 0, 0), at(-1, 0), false}, {round(2, 0, 0, 0), at(1, 1), false}, {round(2, 0, 0, 0), at(1, -1), false},
		{round(5, -1, 5, 3), at(5, 0), true}, {round(5, 3, 5, -1), at(5, noughtBelow), true}, {round(5, -1, 5, 3), at(5, -1), true}, {round(5, -1, 5, 3), at(5, 3), true}, {round(5, -1, 5, 3), at(5, over(3)), false}, {round(5, 3, 5, -1), at(5, under(-1)), false}, {round(5, -1, 5, 3), at(over(5), 0), false}, {round(5, -1, 5, 3), at(under(5), 0), false},
		{round(-3, -1, 6, 2), at(3, 1), true}, {round(6, 2, -3, -1), at(0, 0), true}, {round(-3, -1, 6, 2), at(3, over(1)), false}, {round(-3, -1, 6, 2), at(9, 3), false}, {round(-3, -1, 6, 2), at(-6, -2), false}, {round(-greatest, -greatest, greatest, greatest), at(least, least), true}, {round(-greatest, -greatest, greatest, greatest), at(least, 2*least), false}, {round(-least, 0, least, 0), at(0, 0), true}, {round(-least, 0, least, 0), at(2*least, 0), false},
		// Two that are alike.
		{round(1, 1, 1, 1), at(1, 1), true}, {round(1, 1, 1, 1), at(2, 2), false}, {round(1, 1, 1, 1), at(0, 1), false}, {round(1, 1, 1, 1), at(1, over(1)), false}, {round(1, 1, 1, 1), at(under(1), 1), false}, {round(0, 0, noughtBelow, 0), at(0, noughtBelow), true}, {round(0, noughtBelow, noughtBelow, 0), at(least, 0), false},
		// Within, on a border, at a corner, in a border's line but beyond it, without.
		{square, at(1, 1), true}, {square, at(least, least), true}, {square, at(under(2), under(2)), true}, {square, at(2, 1), true}, {square, at(1, 0), true}, {square, at(0, 1), true}, {square, at(1, noughtBelow), true}, {square, at(noughtBelow, 1), true}, {square, at(1, 2), true}, {square, at(0, 0), true}, {square, at(2, 0), true}, {square, at(2, 2), true}, {square, at(0, 2), true}, {square, at(3, 0), false}, {square, at(-1, 0), false}, {square, at(2, 2.5), false}, {square, at(2, -1), false}, {square, at(5, 2), false}, {square, at(-5, 2), false}, {square, at(0, 3), false}, {square, at(0, -3), false}, {square, at(over(2), 1), false}, {square, at(1, over(2)), false}, {square, at(-least, 1), false}, {square, at(1, -least), false}, {square, at(3, 3), false}, {square, at(-greatest, 1), false}, {square, at(greatest, greatest), false},
		{slant, at(3, 1), true}, {slant, at(3, over(1)), true}, {slant, at(3, under(1)), false}, {slant, at(9, 3), false}, {slant, at(-6, -2), false}, {slant, at(1, 3), true}, {slant, at(0, 9), true}, {slant, at(over(0), 9), false},
	} {
		wantHolds(t, c.h, c.p, c.want)
		if holdsOf(c.h, c.p) != c.want {
			t.Errorf("%s, %s: not %v", seen(c.h...), seen(c.p), c.want)
		}
		for i := range c.h {
			wantHolds(t, turned(c.h, i), c.p, c.want)
			wantHolds(t, back(turned(c.h, i)), c.p, holdsOf(back(turned(c.h, i)), c.p))
		}
	}
}

// Rounds that aren't right: just as the lines tell.
func TestHoldsWrong(t *testing.T) {
	for _, c := range []struct {
		h    []api.Point
		p    api.Point
		want bool
	}{
		// The other way round nothing is held but what lies in all lines.
		{round(0, 0, 0, 2, 2, 2, 2, 0), at(1, 1), false}, {round(0, 0, 0, 2, 2, 2, 2, 0), at(2, 2), false}, {round(0, 0, 0, 2, 2, 2, 2, 0), at(9, 9), false},
		// Three in one line hold it all; three alike hold everything.
		{round(0, 0, 1, 1, 2, 2), at(1, 1), true}, {round(0, 0, 1, 1, 2, 2), at(7, 7), true}, {round(0, 0, 2, 2, 1, 1), at(-7, -7), true}, {round(0, 0, 1, 1, 2, 2), at(7, over(7)), false}, {round(0, 0, 1, 1, 2, 2), at(7, under(7)), false}, {round(3, 3, 3, 3, 3, 3), at(5, -8), true}, {round(0, 0, noughtBelow, 0, 0, noughtBelow, 0, 0), at(-greatest, least), true},
		// A corner once more changes nothing, a corner within does.
		{round(0, 0, 2, 0, 2, 0, 2, 2, 0, 2), at(1, 1), true}, {round(0, 0, 2, 0, 2, 0, 2, 2, 0, 2), at(3, 0), false}, {round(0, 0, 1, 1, 2, 0, 2, 2, 0, 2), at(1, 1.5), true}, {round(0, 0, 1, 1, 2, 0, 2, 2, 0, 2), at(0.5, 1), false}, {round(0, 0, 1, 1, 2, 0, 2, 2, 0, 2), at(1, 0.5), false},
		// Twice round, and crossing itself.
		{round(0, 0, 2, 0, 2, 2, 0, 2, 0, 0, 2, 0, 2, 2, 0, 2), at(1, 1), true}, {round(0, 0, 2, 0, 2, 2, 0, 2, 0, 0, 2, 0, 2, 2, 0, 2), at(1, 3), false}, {round(0, 0, 2, 2, 2, 0, 0, 2), at(1, 1), false}, {round(0, 0, 2, 0, 0, 2, 2, 2), at(1, 1), false},
	} {
		wantHolds(t, c.h, c.p, c.want)
	}
	by := dice(3)
	few := []float64{0, noughtBelow, 1, -1, 2, least, -least, 1e200, -1e200, greatest}
	for _, h := range wrongRounds() {
		for range 12 {
			p := at(few[by.IntN(len(few))], few[by.IntN(len(few))])
			for i := range h {
				wantHolds(t, turned(h, i), p, holdsOf(turned(h, i), p))
				wantHolds(t, back(turned(h, i)), p, holdsOf(back(turned(h, i)), p))
			}
		}
	}
	for n := range 600 {
		var h []api.Point
		for range n % 7 {
			h = append(h, at(few[by.IntN(5+n%6)], few[by.IntN(5)]))
		}
		p := at(few[by.IntN(5+n%6)], few[by.IntN(5)])
		wantHolds(t, h, p, holdsOf(h, p))
		wantRight(t, h, rightByHull(h))
	}
}

// asked: points to ask of a round: its corners, such as lie beside them or
// between two of them, and some others.
func asked(h []api.Point, by *rand.Rand) (list []api.Point) {
	list = round(0, 0, noughtBelow, noughtBelow, 1, 1, -1, 0.5, greatest, greatest, -greatest, greatest, least, least)
	f := math.Float64frombits
	for i, p := range h {
		q := h[by.IntN(len(h))]
		next := h[(i+1)%len(h)]
		list = append(list, p, at(over(f(p.X)), f(p.Y)), at(f(p.X), under(f(p.Y))), at(f(p.X)/2+f(q.X)/2, f(p.Y)/2+f(q.Y)/2), at(f(p.X)/2+f(next.X)/2, f(p.Y)/2+f(next.Y)/2))
	}
	return slices.DeleteFunc(list, func(p api.Point) bool { return !isGood(p) })
}

// What a right round holds is just what segments and triangles of its points do.
func TestHoldsAll(t *testing.T) {
	by := dice(4)
	held, others := 0, 0
	for _, h := range rounds() {
		for _, p := range asked(h, by) {
			want := holdsOf(h, p)
			wantHolds(t, h, p, want)
			if len(h) <= 6 && heldBy(h, p) != want {
				t.Errorf("P10.4: Holds of %s, %s: segments and triangles tell %v", seen(h...), seen(p), !want)
			}
			if want {
				held++
			} else {
				others++
			}
		}
	}
	if held < 1000 || others < 1000 {
		t.Errorf("P10.3: %d are held, %d aren't", held, others)
	}
}

// orders hands each order of the points to do.
func orders(h []api.Point, from int, do func(h []api.Point)) {
	if from == len(h) {
		do(h)
		return
	}
	for i := from; i < len(h); i++ {
		h[from], h[i] = h[i], h[from]
		orders(h, from+1, do)
		h[from], h[i] = h[i], h[from]
	}
}

// Of all rounds of the same points, in any order, the right one is alone.
func TestOnlyOne(t *testing.T) {
	by := dice(5)
	for _, h := range rounds() {
		want := slices.Clone(h)
		for _, p := range h {
			wantHolds(t, h, p, true)
		}
		if len(h) <= 6 {
			many := 0
			orders(slices.Clone(h), 0, func(other []api.Point) {
				if shape.Right(other) {
					many++
					if !slices.Equal(other, want) {
						t.Errorf("P10.4: beside %s also %s is right", seen(want...), seen(other...))
					}
				}
			})
			if many != 1 {
				t.Errorf("P10.4: of %s %d orders are right", seen(h...), many)
			}
			continue
		}
		for range 30 {
			other := slices.Clone(h)
			by.Shuffle(len(other), func(i, k int) { other[i], other[k] = other[k], other[i] })
			wantRight(t, other, slices.Equal(other, want))
			// Two in each other's place alone.
			other = slices.Clone(h)
			i := by.IntN(len(h))
			k := (i + 1 + by.IntN(len(h)-1)) % len(h)
			other[i], other[k] = other[k], other[i]
			wantRight(t, other, false)
		}
	}
}

// Points that hold one among themselves have no right round at all; without
// that one they have.
func TestOneHeld(t *testing.T) {
	for _, c := range []struct {
		h []api.Point
		p api.Point
	}{
		{round(0, 0, 4, 0, 0, 4), at(1, 1)}, {round(0, 0, 4, 0, 0, 4), at(2, 2)}, {round(0, 0, 4, 0, 0, 4), at(0, 1)}, {round(0, 0, 4, 0, 0, 4), at(4, 0)}, {round(0, 0, 4, 0, 0, 4), at(least, least)}, {round(0, 0, 2, 0), at(1, 0)}, {round(0, 0, 2, 0), at(0, 0)}, {round(0, -1, 0, 1), at(0, least)}, {round(5, 5), at(5, 5)}, {round(0, 0, 2, 0, 2, 2, 0, 2), at(1, 1)}, {round(0, 0, 2, 0, 2, 2, 0, 2), at(1, under(2))}, {round(0, 0, 2, 0, 2, 2, 0, 2), at(2, over(0))}, {round(0, 0, 2, 0, 2, 2, 0, 2), at(2, 2)}, {round(-greatest, -greatest, greatest, -greatest, greatest, greatest, -greatest, greatest), at(greatest, under(greatest))},
	} {
		checkRound(t, c.h)
		wantHolds(t, c.h, c.p, true)
		orders(append(slices.Clone(c.h), c.p), 0, func(other []api.Point) { wantRight(t, other, false) })
	}
}

// Right rounds of very many points, and such with one slip.
func TestLong(t *testing.T) {
	h := bowl(20001)
	wantRight(t, h, true)
	wantHolds(t, h, at(0.5, 0.5), true)
	wantHolds(t, h, at(0.5, 0.25), false)
	wantHolds(t, h, at(9999.5, 9999.5*9999.5+0.25), true)
	wantHolds(t, h, at(9999.5, 9999.5*9999.5+0.125), false)
	for _, place := range []int{0, 1, 9999, 19999, 20000} {
		other := slices.Clone(h)
		other[place].Y = math.Float64bits(math.Float64frombits(other[place].Y) + 3)
		wantRight(t, other, place == 0 || place == 20000)
		wantStart(t, turned(h, place), h)
		wantRight(t, turned(h, place), place == 0)
	}
}

// What is handed in stays as it was, its spare room too, be it right or wrong.
func TestHandedIn(t *testing.T) {
	room := append(wheel(30), round(5, 5, noughtBelow, 0, 0, noughtBelow, -1e9, 0)...)
	room = append(room, api.Point{X: infinite, Y: signBit}, at(-2e9, 0))
	room = append(room, bowl(9)...)
	before := slices.Clone(room)
	for from := range len(room) {
		for to := from; to <= len(room); to++ {
			h := room[from:to]
			shape.Right(h)
			shape.Start(h)
			shape.Holds(h, at(77, 77))
			shape.Holds(h, bads()[3])
			if !slices.Equal(room, before) {
				t.Fatalf("P10.2: those from %d to %d: handed in was %s, is now %s", from, to, seen(before...), seen(room...))
			}
		}
	}
}

// What is answered has memory of its own: to change it, its spare room too,
// changes neither what was handed in nor other answers.
func TestOwnMemory(t *testing.T) {
	for n := range 40 {
		for place := range max(n, 1) {
			room := append(turned(bowl(n), place), wheel(3)...)
			h, before := room[:n], slices.Clone(room)
			one, e := shape.Start(h)
			two, f := shape.Start(h)
			if e != nil || f != nil || !slices.Equal(one, two) {
				t.Errorf("P10.2: Start of %s: %v %v, or not the same twice", seen(h...), e, f)
			}
			one = one[:cap(one)]
			for k := range one {
				one[k] = bads()[0]
			}
			if !slices.Equal(room, before) || !slices.Equal(two, bowl(n)) {
				t.Errorf("P10.2: Start of %s shares memory", seen(before...))
			}
			wantStart(t, h, bowl(n))
		}
	}
}
