package rounds_test

import (
	"math"
	"math/rand/v2"
	"slices"
	"testing"

	"outrigger/api"
	"outrigger/chain"
	"outrigger/filter"
)

// turned: the round, begun at that place.
func turned(h []api.Point, place int) []api.Point {
	return append(slices.Clone(h[place:]), h[:place]...)
}

// back: the round, the other way round, begun at the same point.
func back(h []api.Point) []api.Point {
	h = slices.Clone(h)
	if len(h) > 0 {
		slices.Reverse(h[1:])
	}
	return h
}

// times: both coordinates of all points so often; by a power of two that
// loses nothing, where none ends below the least float or above the greatest.
func times(h []api.Point, n float64) (list []api.Point) {
	for _, p := range h {
		list = append(list, at(floatX(p)*n, floatY(p)*n))
	}
	return list
}

// bowl: a right round of n points of whole numbers, all with y = x^2, from that
// x on.
func bowl(n, from int) (h []api.Point) {
	for i := range n {
		x := float64(from + i)
		h = append(h, at(x, x*x))
	}
	return h
}

// wheel: a right round of n points, at least three, beside a circle.
func wheel(n int) (h []api.Point) {
	for i := range n {
		sin, cos := math.Sincos(2 * math.Pi * float64(i) / float64(n))
		h = append(h, at(1000*cos, 1000*sin))
	}
	return rightRound(h)
}

// views: a plane as it is, turned by quarters and by a half, and all that from
// behind.
func views() (list []func(p api.Point) api.Point) {
	for i := range 8 {
		list = append(list, func(p api.Point) api.Point {
			x, y := floatX(p), floatY(p)
			if i&1 != 0 {
				x = -x
			}
			if i&2 != 0 {
				y = -y
			}
			if i&4 != 0 {
				x, y = y, x
			}
			return normOf(at(x, y))
		})
	}
	return list
}

// seenFrom: a right round in a view, right again.
func seenFrom(h []api.Point, view func(p api.Point) api.Point) []api.Point {
	var l []api.Point
	for _, p := range h {
		l = append(l, view(p))
	}
	return rightRound(l)
}

// whole: right rounds of small whole numbers: of one, two, three, four corners
// and more.
func whole() (list [][]api.Point) {
	list = [][]api.Point{
		round(0, 0), round(-3, 7), round(0, 0, 2, 0), round(0, 0, 0, 2), round(-3, -1, 6, 2), round(-1, 4, 2, 1), round(5, -2, 5, 1), round(0, 0, 1, 1),
		round(0, 0, 4, 0, 0, 4), round(0, 0, 3, 1, 1, 3), round(-5, -7, -4, -9, -1, -8), round(0, -1, 7, 0, 0, 1), round(0, 0, 1, -2, 1, 2), round(0, 0, 8, 1, 9, 9),
		round(0, 0, 2, 0, 2, 2, 0, 2), round(-1, 0, 0, -1, 1, 0, 0, 1), round(-9, -7, -4, -9, -1, -8, -5, -6), round(3, 2, 7, 1, 8, 6, 3, 5), round(0, 0, 9, -1, 10, 0, 9, 1),
		round(-4, 0, -3, -2, 0, -3, 3, -2, 4, 0, 3, 2, 0, 3, -3, 2), round(0, 1, 1, 0, 3, 0, 4, 1, 4, 3, 3, 4, 1, 4, 0, 3),
	}
	for n := 3; n < 11; n++ {
		list = append(list, bowl(n, 0), bowl(n, -n/2), bowl(n, 1-n))
	}
	return list
}

// rounds: right ones, of one to some dozens of points, small and great, above 0
// and below, and of very unlike sizes.
func rounds() [][]api.Point {
	list := append(whole(),
		round(greatest, -least), round(-leastHigh, greatest), round(0, -least, 0, least), round(-greatest, greatest, greatest, -greatest), round(1, 1, 1, over(1)), round(1, 5, over(1), -5), round(-greatest, -greatest, greatest, greatest), round(-least, 0, least, 0),
		round(-greatest, -greatest, greatest, -greatest, greatest, greatest, -greatest, greatest), round(0, 0, least, 0, least, least, 0, least), round(0, 0, greatest, least, greatest, 2*least), round(-greatest, 0, 0, -least, greatest, 0, 0, least), round(-1e200, 1e-200, 1e-200, -1e200, 1e200, 1e100), round(0, 0, 1, 1, 0.5, 0.5+0x1p-53), round(0, 0, 0.5, 0.5-0x1p-54, 1, 1),
		round(1, 1, over(1), 1, 1, over(1)), round(1, 1, over(1), 1, over(1), over(1), 1, over(1)), round(-leastHigh, 0, 0, -leastHigh, least, 0), round(-1, 0, -1e-300, -1e-300, 1e-300, -1e-300, 1, 0, 1e-300, 1e-300, -1e-300, 1e-300), round(-greatest, greatest, 0, 0, under(greatest), greatest),
	)
	for n := 3; n <= 48; n += 1 + n/8 {
		for _, size := range []float64{1, 0x1p-540, 0x1p1000} {
			list = append(list, times(wheel(n), size))
		}
		list = append(list, times(bowl(n, -n/2), least), times(bowl(n, 3-n), 0x1p1000))
	}
	return append(list, chancy()...)
}

// chancy: hulls of points by chance, in a grid, of like sizes, and of very
// unlike ones.
func chancy() (list [][]api.Point) {
	by := dice(1)
	for n := range 120 {
		var l []api.Point
		size := math.Ldexp(1, by.IntN(1900)-950)
		for range 3 + by.IntN(30) {
			switch n % 3 {
			case 0:
				l = append(l, at(float64(by.IntN(15)-7)*size, float64(by.IntN(15)-7)*size))
			case 1:
				l = append(l, at((by.Float64()-0.5)*size, (by.Float64()-0.5)*size))
			default:
				l = append(l, at(math.Ldexp(by.Float64()-0.5, by.IntN(2000)-1000), math.Ldexp(by.Float64()-0.5, by.IntN(2000)-1000)))
			}
		}
		h, _ := chain.Hull(l)
		list = append(list, h)
	}
	return list
}

// gridHulls: each hull of points of a grid of three by three: all ways that few
// corners can lie to one another.
func gridHulls() (list [][]api.Point) {
	done := map[string]bool{}
	for mask := 1; mask < 1<<9; mask++ {
		var l []api.Point
		for i := range 9 {
			if mask>>i&1 == 1 {
				l = append(l, at(float64(i/3-1), float64(i%3-1)))
			}
		}
		h, _ := chain.Hull(l)
		if name := seen(h...); !done[name] {
			done[name] = true
			list = append(list, h)
		}
	}
	return list
}

// below: a point, and what is alike to it but for a 0 below 0.
func below(q api.Point) []api.Point {
	list := []api.Point{q}
	if floatX(q) == 0 {
		list = append(list, api.Point{X: q.X ^ signBit, Y: q.Y})
	}
	if floatY(q) == 0 {
		for _, q := range list {
			list = append(list, api.Point{X: q.X, Y: q.Y ^ signBit})
		}
	}
	return list
}

// around: points on all sides of a round, near and far; beside its corners and
// beyond them, opposite its lines, and in its lines on either end, as near as
// floats come to that.
func around(h []api.Point, by *rand.Rand) (list []api.Point) {
	for _, x := range []float64{0, noughtBelow, 1, -1, least, -least, leastHigh, 1e200, -1e200, greatest, -greatest} {
		y := []float64{0, noughtBelow, 0.5, -3, least, -least, -leastHigh, 1e150, -1e250, greatest, -greatest}[by.IntN(11)]
		list = append(list, at(x, y))
	}
	for i, p := range h {
		next, other := h[(i+1)%len(h)], h[by.IntN(len(h))]
		x, y := floatX(p), floatY(p)
		onX, onY := floatX(next)-x, floatY(next)-y
		far := math.Ldexp(1, by.IntN(12)-4)
		list = append(list,
			p, at(over(x), y), at(x, under(y)), at(under(x), over(y)),
			at(x-far*onX, y-far*onY), at(floatX(next)+far*onX, floatY(next)+far*onY),
			at(x+onX/2+far*onY, y+onY/2-far*onX), at(x+onX/2+onY*0x1p-50, y+onY/2-onX*0x1p-50), at(x+onX/2, y+onY/2),
			at(2*x-floatX(other), 2*y-floatY(other)), at(x*far*4, y*far*4), at(x+far*(floatY(other)-y), y-far*(floatX(other)-x)),
		)
	}
	return slices.DeleteFunc(list, func(p api.Point) bool { return !isGood(p) })
}

// inLine: a point in the line of two, so often as far from the first one as
// the second one is; of small whole numbers it's just in it.
func inLine(p, r api.Point, times float64) api.Point {
	return at(floatX(p)+times*(floatX(r)-floatX(p)), floatY(p)+times*(floatY(r)-floatY(p)))
}

// inLines hands each two corners of right rounds of small whole numbers to do,
// from each side, so that the line from one to the next is the first one, the
// last one, and each other.
func inLines(do func(h []api.Point, i, k int)) {
	for _, shape := range whole() {
		for _, view := range views() {
			h := seenFrom(shape, view)
			for i := range h {
				for k := range h {
					do(h, i, k)
				}
			}
		}
	}
}

// border: a round that lies above the line from its first corner to the second
// one, and points in that line: between both, before it and behind it.
type border struct {
	h                   []api.Point
	mid, before, behind api.Point
}

// borders: of all sizes.
func borders() (list []border) {
	for power := -1000; power <= 1000; power += 40 {
		n := math.Ldexp(1, power)
		for _, c := range []border{
			{round(0, 0, 1, 1, 0, 1), at(0.5, 0.5), at(-3, -3), at(1.25, 1.25)}, {round(-3, -1, 6, 2, 0, 9), at(3, 1), at(-9, -3), at(33, 11)}, {round(-5, 4, 7, -4, 8, 8), at(-2, 2), at(-8, 6), at(10, -6)}, {round(-64, 1, 64, 1.5, 1, 7), at(0, 1.25), at(-128, 0.75), at(128, 1.75)}, {round(-64, 0, 3, 0, 1, 1), at(0.75, 0), at(-99, 0), at(3.25, 0)}, {round(0, 0, 3, 1, 1, 2), at(1.5, 0.5), at(-6, -2), at(4.5, 1.5)},
		} {
			p := times([]api.Point{c.mid, c.before, c.behind}, n)
			list = append(list, border{times(c.h, n), p[0], p[1], p[2]})
		}
	}
	return list
}

// beside: one float below a point, and one above it.
func beside(q api.Point) (low, high api.Point) {
	return at(floatX(q), under(floatY(q))), at(floatX(q), over(floatY(q)))
}

// wrongRounds: such as aren't right, of good points.
func wrongRounds() [][]api.Point {
	list := [][]api.Point{
		// Two: that fall, that are alike, of like x; one that isn't its Norm.
		round(1, 0, 0, 0), round(3, 3, 3, 3), round(0, least, 0, -least), round(over(1), -5, 1, 5), round(noughtBelow, 3), round(noughtBelow, noughtBelow), round(noughtBelow, 0, 0, 0),
		// In one line.
		round(0, 0, 1, 1, 2, 2), round(0, 0, 2, 2, 1, 1), round(0, 0, 0, 1, 0, 2), round(0, 0, 1, 0, 2, 0, 1, 0), round(-greatest, -greatest, 0, 0, greatest, greatest),
		// From elsewhere; the other way round; both.
		round(2, 0, 2, 2, 0, 2, 0, 0), round(0, 2, 0, 0, 2, 0, 2, 2), round(1, 0, 0, 1, 0, 0), round(0, 0, 0, 2, 2, 0), round(0, 0, 0, 2, 2, 2, 2, 0), round(2, 0, 0, 0, 0, 2, 2, 2),
		// A corner twice, in a row and apart.
		round(0, 0, 0, 0, 2, 0, 2, 2), round(0, 0, 2, 0, 2, 2, 2, 2), round(0, 0, 2, 0, 2, 2, 0, 0), round(0, 0, 2, 0, 0, 0, 2, 2), round(0, 0, 1, 1, 1, 1), round(0, 0, 0, 0),
		// One on a border, at each; within; a star.
		round(0, 0, 1, 0, 2, 0, 2, 2, 0, 2), round(0, 0, 2, 0, 2, 1, 2, 2, 0, 2), round(0, 0, 2, 0, 2, 2, 1, 2, 0, 2), round(0, 0, 2, 0, 2, 2, 0, 2, 0, 1), round(0, 0, 4, 2, 3, 3, 2, 4), round(0, 0, 1, 0.25, 2, 0, 2, 2, 0, 2), round(0, 0, 2, 0, 2, 2, 0, 2, 1, 1), round(0, 0, 2, 2, 2, 0, 0, 2), round(0, 0, 2, 0, 0, 2, 2, 2),
		// 0 below 0, at the first place, at the last one and between.
		round(noughtBelow, 0, 2, 0, 2, 2, 0, 2), round(0, 0, 2, noughtBelow, 2, 2, 0, 2), round(0, 0, 2, 0, 2, 2, noughtBelow, 2), round(0, noughtBelow, 2, 0, 2, 2, 0, 2), round(-1, 0, 0, -1, 1, 0, noughtBelow, 1), round(-1, noughtBelow, 1, 0), round(-1, 0, 1, noughtBelow),
	}
	for n := 5; n < 40; n += 3 {
		var star []api.Point
		for i := range n {
			star = append(star, wheel(n)[i*2%n])
		}
		list = append(list, star, slices.Repeat(wheel(n), 2), slices.Repeat(bowl(n, 0), 3), turned(wheel(n), n/2), turned(bowl(n, -3), n-1), back(wheel(n)), back(bowl(n, -n)))
	}
	return list
}

// bads: bits that are none, infinite ones and others, of both signs, as X, as Y,
// and as both.
func bads() (list []api.Point) {
	for _, b := range []uint64{infinite, infinite | 1, infinite | 1<<51, infinite | (1<<52 - 1), math.Float64bits(math.NaN())} {
		for _, b := range []uint64{b, b | signBit} {
			list = append(list, api.Point{X: b}, api.Point{Y: b}, api.Point{X: signBit, Y: b}, api.Point{X: b, Y: math.Float64bits(-5)}, api.Point{X: b, Y: infinite}, api.Point{X: math.Float64bits(greatest), Y: b})
		}
	}
	return list
}

// What tests go by is itself right.
func TestWords(t *testing.T) {
	t.Parallel()
	for _, h := range append(append(rounds(), nil, wheel(300), bowl(300, -150)), gridHulls()...) {
		if !isRight(h) {
			t.Errorf("%s is no right round", seen(h...))
		}
	}
	if n := len(gridHulls()); n < 150 {
		t.Errorf("%d hulls", n)
	}
	blind := 0
	for _, c := range borders() {
		for _, q := range []api.Point{c.mid, c.before, c.behind} {
			low, high := beside(q)
			for _, q := range []api.Point{low, high} {
				if _, sure := filter.Turn(c.h[0], c.h[1], q); !sure {
					blind++
				}
			}
			if _, in := sightOf(c.h, q).lines(); in != 1 {
				t.Errorf("%s lies in %d lines of %s", seen(q), in, seen(c.h...))
			}
		}
	}
	if blind < 3*len(borders()) {
		t.Errorf("floats are sure of all beside %d borders but %d", len(borders()), blind)
	}
	for n := 3; n < 60; n++ {
		if len(wheel(n)) != n {
			t.Errorf("a wheel of %d has %d", n, len(wheel(n)))
		}
	}
}
