package reach_test

import (
	"errors"
	"fmt"
	"math"
	"math/rand/v2"
	"slices"
	"testing"

	"outrigger/api"
	"outrigger/chain"
	"outrigger/filter"
	"outrigger/reach"
)

// side: one of both calls, what it tells, and on which side none may lie.
type side struct {
	name   string
	corner func(h []api.Point, q api.Point) (int, error)
	turn   int
}

func sides() []side {
	return []side{{"Right", reach.Right, -1}, {"Left", reach.Left, 1}}
}

// wantCorners holds both against what is wanted.
func wantCorners(t *testing.T, h []api.Point, q api.Point, right, left int) {
	t.Helper()
	for i, want := range []int{right, left} {
		s := sides()[i]
		if place, e := s.corner(h, q); e != nil || place != want {
			t.Errorf("P14.1: %s of %s from %s: %d %v, not %d", s.name, seen(h...), seen(q), place, e, want)
		}
	}
}

// checkSeen holds both, of a right round, against the words, corner by corner,
// and tells what they answered, if q isn't held; of few corners it asks, too,
// that the words give no other one.
func checkSeen(t *testing.T, h []api.Point, q api.Point) (right, left int, seenAny bool) {
	t.Helper()
	if held(h, q) {
		wantRefused(t, h, q, api.NoTangent)
		return 0, 0, false
	}
	var places [2]int
	from := sightOf(h, q)
	for i, s := range sides() {
		place, e := s.corner(h, q)
		if e != nil || place < 0 || place >= len(h) || !from.isOutermost(place, s.turn) {
			t.Errorf("P14.1: %s of %s from %s: %d %v", s.name, seen(h...), seen(q), place, e)
			return 0, 0, false
		}
		if len(h) <= 8 && len(from.outermost(s.turn)) != 1 {
			t.Errorf("%s of %s from %s: %v, by the words", s.name, seen(h...), seen(q), from.outermost(s.turn))
		}
		places[i] = place
	}
	for i := range h {
		if from.turn(places[0], i) < 0 || from.turn(places[1], i) > 0 || len(h) == 1 && places != [2]int{} {
			t.Errorf("P14.2: of %s from %s, %d lies not between %v", seen(h...), seen(q), i, places)
		}
	}
	return places[0], places[1], true
}

// wantRefused: do both tell that, and 0 beside it?
func wantRefused(t *testing.T, h []api.Point, q api.Point, want error) {
	t.Helper()
	for _, s := range sides() {
		if place, e := s.corner(h, q); place != 0 || e == nil || !errors.Is(e, want) {
			t.Errorf("P14.1: %s of %s from %s: %d %v, not %v", s.name, seen(h...), seen(q), place, e, want)
		}
	}
}

// turned: the round, begun at that place.
func turned(h []api.Point, place int) []api.Point {
	return append(slices.Clone(h[place:]), h[:place]...)
}

// back: the round, the other way round, begun at the same point.
func back(h []api.Point) []api.Point {
	h = slices.Clone(h)
	if len(h) > 0 {
		slices.Reverse(h[1:])
	}
	return h
}

// times: both coordinates of all points so often; by a power of two that
// loses nothing, where none ends below the least float or above the greatest.
func times(h []api.Point, n float64) (list []api.Point) {
	for _, p := range h {
		list = append(list, at(floatX(p)*n, floatY(p)*n))
	}
	return list
}

// bowl: a right round of n points of whole numbers, all with y = x^2, from that
// x on.
func bowl(n, from int) (h []api.Point) {
	for i := range n {
		x := float64(from + i)
		h = append(h, at(x, x*x))
	}
	return h
}

// wheel: a right round of n points, at least three, beside a circle.
func wheel(n int) (h []api.Point) {
	for i := range n {
		sin, cos := math.Sincos(2 * math.Pi * float64(i) / float64(n))
		h = append(h, at(1000*cos, 1000*sin))
	}
	return rightRound(h)
}

// views: a plane as it is, turned by quarters and by a half, and all that from
// behind.
func views() (list []func(p api.Point) api.Point) {
	for i := range 8 {
		list = append(list, func(p api.Point) api.Point {
			x, y := floatX(p), floatY(p)
			if i&1 != 0 {
				x = -x
			}
			if i&2 != 0 {
				y = -y
			}
			if i&4 != 0 {
				x, y = y, x
			}
			return normOf(at(x, y))
		})
	}
	return list
}

// seenFrom: a right round in a view, right again.
func seenFrom(h []api.Point, view func(p api.Point) api.Point) []api.Point {
	var l []api.Point
	for _, p := range h {
		l = append(l, view(p))
	}
	return rightRound(l)
}

// whole: right rounds of small whole numbers: of one, two, three, four corners
// and more.
func whole() (list [][]api.Point) {
	list = [][]api.Point{
		round(0, 0), round(-3, 7), round(0, 0, 2, 0), round(0, 0, 0, 2), round(-3, -1, 6, 2), round(-1, 4, 2, 1), round(5, -2, 5, 1), round(0, 0, 1, 1),
		round(0, 0, 4, 0, 0, 4), round(0, 0, 3, 1, 1, 3), round(-5, -7, -4, -9, -1, -8), round(0, -1, 7, 0, 0, 1), round(0, 0, 1, -2, 1, 2), round(0, 0, 8, 1, 9, 9),
		round(0, 0, 2, 0, 2, 2, 0, 2), round(-1, 0, 0, -1, 1, 0, 0, 1), round(-9, -7, -4, -9, -1, -8, -5, -6), round(3, 2, 7, 1, 8, 6, 3, 5), round(0, 0, 9, -1, 10, 0, 9, 1),
		round(-4, 0, -3, -2, 0, -3, 3, -2, 4, 0, 3, 2, 0, 3, -3, 2), round(0, 1, 1, 0, 3, 0, 4, 1, 4, 3, 3, 4, 1, 4, 0, 3),
	}
	for n := 3; n < 11; n++ {
		list = append(list, bowl(n, 0), bowl(n, -n/2), bowl(n, 1-n))
	}
	return list
}

// rounds: right ones, of one to some dozens of points, small and great, above 0
// and below, and of very unlike sizes.
func rounds() [][]api.Point {
	list := append(whole(),
		round(greatest, -least), round(-leastHigh, greatest), round(0, -least, 0, least), round(-greatest, greatest, greatest, -greatest), round(1, 1, 1, over(1)), round(1, 5, over(1), -5), round(-greatest, -greatest, greatest, greatest), round(-least, 0, least, 0),
		round(-greatest, -greatest, greatest, -greatest, greatest, greatest, -greatest, greatest), round(0, 0, least, 0, least, least, 0, least), round(0, 0, greatest, least, greatest, 2*least), round(-greatest, 0, 0, -least, greatest, 0, 0, least), round(-1e200, 1e-200, 1e-200, -1e200, 1e200, 1e100), round(0, 0, 1, 1, 0.5, 0.5+0x1p-53), round(0, 0, 0.5, 0.5-0x1p-54, 1, 1),
		round(1, 1, over(1), 1, 1, over(1)), round(1, 1, over(1), 1, over(1), over(1), 1, over(1)), round(-leastHigh, 0, 0, -leastHigh, least, 0), round(-1, 0, -1e-300, -1e-300, 1e-300, -1e-300, 1, 0, 1e-300, 1e-300, -1e-300, 1e-300), round(-greatest, greatest, 0, 0, under(greatest), greatest),
	)
	for n := 3; n <= 48; n += 1 + n/8 {
		for _, size := range []float64{1, 0x1p-540, 0x1p1000} {
			list = append(list, times(wheel(n), size))
		}
		list = append(list, times(bowl(n, -n/2), least), times(bowl(n, 3-n), 0x1p1000))
	}
	return append(list, chancy()...)
}

// chancy: hulls of points by chance, in a grid, of like sizes, and of very
// unlike ones.
func chancy() (list [][]api.Point) {
	by := dice(1)
	for n := range 120 {
		var l []api.Point
		size := math.Ldexp(1, by.IntN(1900)-950)
		for range 3 + by.IntN(30) {
			switch n % 3 {
			case 0:
				l = append(l, at(float64(by.IntN(15)-7)*size, float64(by.IntN(15)-7)*size))
			case 1:
				l = append(l, at((by.Float64()-0.5)*size, (by.Float64()-0.5)*size))
			default:
				l = append(l, at(math.Ldexp(by.Float64()-0.5, by.IntN(2000)-1000), math.Ldexp(by.Float64()-0.5, by.IntN(2000)-1000)))
			}
		}
		h, _ := chain.Hull(l)
		list = append(list, h)
	}
	return list
}

// What tests go by is itself right.
func TestWords(t *testing.T) {
	t.Parallel()
	for _, h := range append(rounds(), nil, wheel(300), bowl(300, -150)) {
		if !isRight(h) {
			t.Errorf("%s is no right round", seen(h...))
		}
	}
	for n := 3; n < 60; n++ {
		if len(wheel(n)) != n {
			t.Errorf("a wheel of %d has %d", n, len(wheel(n)))
		}
	}
}

// What the document gives, and each edge that it names, written out.
func TestCorners(t *testing.T) {
	t.Parallel()
	square, third := round(0, 0, 2, 0, 2, 2, 0, 2), round(0, 0, 4, 0, 0, 4)
	level, upright, slanting, falling := round(0, 0, 2, 0), round(1, -1, 1, 3), round(-3, -1, 6, 2), round(-1, 4, 2, 1)
	for _, c := range []struct {
		h           []api.Point
		q           api.Point
		right, left int
	}{
		{square, at(4, 1), 2, 1},
		// One: it is both.
		{round(3, 4), at(9, 9), 0, 0}, {round(3, 4), at(over(3), 4), 0, 0}, {round(3, 4), at(3, under(4)), 0, 0}, {round(0, 0), at(least, noughtBelow), 0, 0}, {round(0, 0), at(-greatest, greatest), 0, 0},
		// Two: to either side of their line, above, below, near and far.
		{level, at(1, 1), 0, 1}, {level, at(1, -1), 1, 0}, {level, at(0, 5), 0, 1}, {level, at(2, -5), 1, 0}, {level, at(1, least), 0, 1}, {level, at(1, -least), 1, 0}, {level, at(greatest, least), 0, 1}, {level, at(-greatest, -least), 1, 0}, {level, at(-7, 9), 0, 1}, {level, at(12, -9), 1, 0},
		{upright, at(0, 0), 0, 1}, {upright, at(4, 0), 1, 0}, {upright, at(under(1), 77), 0, 1}, {upright, at(over(1), 77), 1, 0}, {upright, at(over(1), -77), 1, 0}, {upright, at(-greatest, 3), 0, 1}, {upright, at(greatest, -1), 1, 0},
		{slanting, at(3, over(1)), 0, 1}, {slanting, at(3, under(1)), 1, 0}, {slanting, at(9, over(3)), 0, 1}, {slanting, at(9, under(3)), 1, 0}, {slanting, at(-6, over(-2)), 0, 1}, {slanting, at(-6, under(-2)), 1, 0}, {falling, at(9, 9), 0, 1}, {falling, at(0, 0), 1, 0},
		// Two, in their line: behind the second, and before the first.
		{level, at(3, 0), 0, 0}, {level, at(over(2), noughtBelow), 0, 0}, {level, at(greatest, 0), 0, 0}, {level, at(-1, 0), 1, 1}, {level, at(-least, noughtBelow), 1, 1}, {level, at(-greatest, 0), 1, 1},
		{upright, at(1, 5), 0, 0}, {upright, at(1, over(3)), 0, 0}, {upright, at(1, greatest), 0, 0}, {upright, at(1, -2), 1, 1}, {upright, at(1, under(-1)), 1, 1}, {upright, at(1, -greatest), 1, 1},
		{slanting, at(9, 3), 0, 0}, {slanting, at(3<<40, 1<<40), 0, 0}, {slanting, at(-6, -2), 1, 1}, {slanting, at(-3<<40, -1<<40), 1, 1}, {falling, at(3, 0), 0, 0}, {falling, at(1<<50, 3-1<<50), 0, 0}, {falling, at(-2, 5), 1, 1}, {falling, at(-1<<50, 3+1<<50), 1, 1},
		// Three: beyond each corner, opposite each line, in each line on either end.
		{third, at(-1, -1), 1, 2}, {third, at(6, -1), 2, 0}, {third, at(-1, 6), 0, 1}, {third, at(1, -1), 1, 0}, {third, at(3, 3), 2, 1}, {third, at(-1, 1), 0, 2},
		{third, at(8, 0), 2, 0}, {third, at(-4, 0), 1, 2}, {third, at(0, 8), 0, 1}, {third, at(0, -8), 1, 2}, {third, at(-4, 8), 0, 1}, {third, at(8, -4), 2, 0}, {third, at(over(4), 0), 2, 0}, {third, at(-least, 0), 1, 2}, {third, at(noughtBelow, over(4)), 0, 1}, {third, at(noughtBelow, -least), 1, 2},
		{third, at(8, least), 2, 1}, {third, at(8, -least), 2, 0}, {third, at(-4, least), 0, 2}, {third, at(-4, -least), 1, 2}, {third, at(least, 8), 2, 1}, {third, at(-least, 8), 0, 1}, {third, at(least, -8), 1, 0}, {third, at(-least, -8), 1, 2}, {third, at(-4, over(8)), 0, 1}, {third, at(-4, under(8)), 0, 2}, {third, at(over(8), -4), 2, 0}, {third, at(under(8), -4), 1, 0},
		// A square: on all sides, beyond each corner, in each line on either end.
		{square, at(1, -3), 1, 0}, {square, at(1, 9), 3, 2}, {square, at(-1, 1), 0, 3}, {square, at(4, 4), 3, 1}, {square, at(-4, -4), 1, 3}, {square, at(4, -1), 2, 0}, {square, at(-1, 5), 0, 2}, {square, at(4, 0), 2, 0}, {square, at(-3, 0), 1, 3}, {square, at(2, 5), 3, 1}, {square, at(2, -5), 2, 0}, {square, at(5, 2), 3, 1}, {square, at(-5, 2), 0, 2}, {square, at(0, 7), 0, 2}, {square, at(0, -7), 1, 3},
		{square, at(over(2), 1), 2, 1}, {square, at(over(2), 0), 2, 0}, {square, at(over(2), over(2)), 3, 1}, {square, at(over(2), -least), 2, 0}, {square, at(1, -least), 1, 0}, {square, at(noughtBelow, -least), 1, 3}, {square, at(-least, noughtBelow), 1, 3}, {square, at(greatest, 1), 2, 1}, {square, at(greatest, greatest), 3, 1}, {square, at(-greatest, greatest), 0, 2}, {square, at(-greatest, 2), 0, 2}, {square, at(-greatest, under(2)), 0, 3}, {square, at(2, -greatest), 2, 0}, {square, at(under(2), -greatest), 1, 0},
		// The greatest and the least floats.
		{round(-greatest, -greatest, greatest, -greatest, 0, greatest), at(greatest, greatest), 2, 1}, {round(-greatest, -greatest, greatest, -greatest, 0, greatest), at(-greatest, greatest), 0, 2}, {round(-greatest, 0, greatest, 0, 0, greatest), at(0, -least), 1, 0}, {round(-greatest, 0, 0, -least, greatest, 0, 0, least), at(greatest, least), 3, 2}, {round(-greatest, 0, 0, -least, greatest, 0, 0, least), at(least, -greatest), 2, 0}, {round(0, 0, least, 0, least, least, 0, least), at(greatest, least), 3, 1}, {round(0, 0, least, 0, least, least, 0, least), at(greatest, 2*least), 3, 1}, {round(0, 0, least, 0, least, least, 0, least), at(2*least, 0), 2, 0},
	} {
		wantCorners(t, c.h, c.q, c.right, c.left)
		checkSeen(t, c.h, c.q)
	}
}

// Each hull of points of a grid of three by three, from each place of a greater
// one around it: all ways that few corners can lie to a point.
func TestGrid(t *testing.T) {
	t.Parallel()
	done := map[string]bool{}
	for mask := 1; mask < 1<<9; mask++ {
		var l []api.Point
		for i := range 9 {
			if mask>>i&1 == 1 {
				l = append(l, at(float64(i/3-1), float64(i%3-1)))
			}
		}
		h, _ := chain.Hull(l)
		if name := seen(h...); done[name] {
			continue
		} else {
			done[name] = true
		}
		for x := -3.0; x <= 3; x++ {
			for y := -3.0; y <= 3; y++ {
				checkSeen(t, h, at(x, y))
			}
		}
	}
	if len(done) < 150 {
		t.Errorf("%d hulls", len(done))
	}
}

// around: points on all sides of a round, near and far; beside its corners and
// beyond them, opposite its lines, and in its lines on either end, as near as
// floats come to that.
func around(h []api.Point, by *rand.Rand) (list []api.Point) {
	for _, x := range []float64{0, noughtBelow, 1, -1, least, -least, leastHigh, 1e200, -1e200, greatest, -greatest} {
		y := []float64{0, noughtBelow, 0.5, -3, least, -least, -leastHigh, 1e150, -1e250, greatest, -greatest}[by.IntN(11)]
		list = append(list, at(x, y))
	}
	for i, p := range h {
		next, other := h[(i+1)%len(h)], h[by.IntN(len(h))]
		x, y := floatX(p), floatY(p)
		onX, onY := floatX(next)-x, floatY(next)-y
		far := math.Ldexp(1, by.IntN(12)-4)
		list = append(list,
			p, at(over(x), y), at(x, under(y)), at(under(x), over(y)),
			at(x-far*onX, y-far*onY), at(floatX(next)+far*onX, floatY(next)+far*onY),
			at(x+onX/2+far*onY, y+onY/2-far*onX), at(x+onX/2+onY*0x1p-50, y+onY/2-onX*0x1p-50), at(x+onX/2, y+onY/2),
			at(2*x-floatX(other), 2*y-floatY(other)), at(x*far*4, y*far*4), at(x+far*(floatY(other)-y), y-far*(floatX(other)-x)),
		)
	}
	return slices.DeleteFunc(list, func(p api.Point) bool { return !isGood(p) })
}

// Right rounds of all kinds, from points around them.
func TestAround(t *testing.T) {
	t.Parallel()
	by := dice(2)
	blind, seenFrom, others := 0, 0, 0
	for _, h := range rounds() {
		for _, q := range around(h, by) {
			if _, _, seenAny := checkSeen(t, h, q); !seenAny {
				others++
				continue
			}
			seenFrom++
			for i, p := range h {
				if _, sure := filter.Turn(q, p, h[(i+1)%len(h)]); !sure && len(h) > 2 {
					blind++
					break
				}
			}
		}
	}
	if seenFrom < 20000 || others < 4000 || blind < 6000 {
		t.Errorf("from %d, not from %d, from %d floats aren't sure", seenFrom, others, blind)
	}
}

// In one line with each two corners, on either end of it, near and far: exactly,
// since all are small whole numbers. Where the line is one of the round, the
// farther one of both is told. From each side, so that the line is the first
// one, the last one, and each other.
func TestInLine(t *testing.T) {
	t.Parallel()
	before, behind := [12]int{}, [12]int{}
	for _, shape := range whole() {
		for _, view := range views() {
			h := seenFrom(shape, view)
			for i, p := range h {
				for k, r := range h {
					x, y := floatX(r)-floatX(p), floatY(r)-floatY(p)
					for _, far := range []float64{1, 2, 0.5, 0x1p-30, 0x1p40} {
						q := at(floatX(r)+far*x, floatY(r)+far*y)
						right, left, _ := checkSeen(t, h, q)
						switch {
						case k == (i+1)%len(h) && i != k:
							// Behind the line's end: its beginning lies farther.
							behind[i]++
							if left != i {
								t.Errorf("P14.1: Left of %s from %s: %d, not %d", seen(h...), seen(q), left, i)
							}
						case i == (k+1)%len(h) && i != k:
							before[k]++
							if right != i {
								t.Errorf("P14.1: Right of %s from %s: %d, not %d", seen(h...), seen(q), right, i)
							}
						}
					}
				}
			}
		}
	}
	for i := range 10 {
		if before[i] < 40 || behind[i] < 40 {
			t.Errorf("line %d: %d times before, %d times behind", i, before[i], behind[i])
		}
	}
}

// caps: rounds of n corners in all views, all but one of their lines short; the
// long one at each place. Beside each a point from which just that line is
// seen, and one from which just that one isn't.
func caps(n int, do func(h []api.Point, one, allButOne api.Point)) {
	for from := 1 - n; from <= 0; from++ {
		h := bowl(n, from)
		first, last := float64(from), float64(from+n-1)
		mid := (first + last) / 2
		one := at(mid, (first*first+last*last)/2+0.5)
		low := at(mid, mid*mid-float64(n*n))
		for _, view := range views() {
			do(seenFrom(h, view), view(one), view(low))
		}
	}
}

// From one point a line alone is seen, whichever place it has; from another one
// all but that.
func TestOneAndAllButOne(t *testing.T) {
	t.Parallel()
	for n := 3; n < 40; n += 1 + n/6 {
		rights, lefts := make([]int, n), make([]int, n)
		caps(n, func(h []api.Point, one, allButOne api.Point) {
			for q, many := range map[api.Point]int{one: 1, allButOne: n - 1} {
				if without, in := sightOf(h, q).lines(); without != many || in != 0 {
					t.Errorf("%s, from %s: %d and %d lines, not %d", seen(h...), seen(q), without, in, many)
				}
				right, left, _ := checkSeen(t, h, q)
				rights[right]++
				lefts[left]++
			}
		})
		if slices.Contains(rights, 0) || slices.Contains(lefts, 0) {
			t.Errorf("of %d: never told is one of %v, %v", n, rights, lefts)
		}
	}
}

// Some hundreds, and a few thousands: from all around each corner is told, the
// first one, the last one, the least and the greatest.
func TestHundreds(t *testing.T) {
	t.Parallel()
	by := dice(3)
	for _, h := range [][]api.Point{wheel(100), wheel(257), times(wheel(300), 0x1p-500), bowl(200, -60), times(bowl(333, -333), 0x1p900)} {
		rights, lefts := map[int]bool{}, map[int]bool{}
		told := func(q api.Point) {
			if right, left, seenAny := checkSeen(t, h, q); seenAny {
				rights[right], lefts[left] = true, true
			}
		}
		for i, p := range h {
			// Just beside the middle of a line it alone is seen.
			next := h[(i+1)%len(h)]
			onX, onY := floatX(next)-floatX(p), floatY(next)-floatY(p)
			told(at(floatX(p)+onX/2+onY*0x1p-20, floatY(p)+onY/2-onX*0x1p-20))
		}
		for _, q := range around(h, by)[:300] {
			told(q)
		}
		if len(rights) != len(h) || len(lefts) != len(h) {
			t.Errorf("%d and %d are told of %d", len(rights), len(lefts), len(h))
		}
	}
	for _, h := range [][]api.Point{wheel(5000), bowl(4600, -2300)} {
		for _, q := range round(5000, 0, -5000, 1, 7, 3e7, 0, -9e9, greatest, greatest, -least, -greatest, 2000, 2000) {
			checkSeen(t, h, q)
		}
	}
}

// Points in a border's line, in the midst or on either end, and one float
// beside it, of each size: floats aren't sure.
func TestBesideLine(t *testing.T) {
	t.Parallel()
	blind, all := 0, 0
	for _, c := range []struct {
		h                   []api.Point // from the first point to the second one the border goes, above it lies the round
		mid, before, behind api.Point
	}{
		{round(0, 0, 1, 1, 0, 1), at(0.5, 0.5), at(-3, -3), at(1.25, 1.25)}, {round(-3, -1, 6, 2, 0, 9), at(3, 1), at(-9, -3), at(33, 11)}, {round(-5, 4, 7, -4, 8, 8), at(-2, 2), at(-8, 6), at(10, -6)}, {round(-64, 1, 64, 1.5, 1, 7), at(0, 1.25), at(-128, 0.75), at(128, 1.75)}, {round(-64, 0, 3, 0, 1, 1), at(0.75, 0), at(-99, 0), at(3.25, 0)}, {round(0, 0, 3, 1, 1, 2), at(1.5, 0.5), at(-6, -2), at(4.5, 1.5)},
	} {
		for power := -1000; power <= 1000; power += 40 {
			n := math.Ldexp(1, power)
			h := times(c.h, n)
			for i, q := range times([]api.Point{c.mid, c.before, c.behind}, n) {
				without, within := at(floatX(q), under(floatY(q))), at(floatX(q), over(floatY(q)))
				for _, q := range []api.Point{without, within} {
					all++
					if _, sure := filter.Turn(h[0], h[1], q); !sure {
						blind++
					}
				}
				for _, view := range views() {
					for _, q := range []api.Point{q, without, within} {
						checkSeen(t, seenFrom(h, view), view(q))
						checkSeen(t, seenFrom(h[:2], view), view(q))
					}
				}
				switch i {
				case 0:
					wantRefused(t, h, q, api.NoTangent)
					wantRefused(t, h, within, api.NoTangent)
					wantCorners(t, h, without, 1, 0)
				case 1:
					wantCorners(t, h, q, 1, 2)
					wantCorners(t, h, within, 0, 2)
					wantCorners(t, h, without, 1, 2)
				default:
					wantCorners(t, h, q, 2, 0)
					wantCorners(t, h, within, 2, 1)
					wantCorners(t, h, without, 2, 0)
				}
			}
		}
	}
	if blind < all/2 {
		t.Errorf("floats are sure of all of %d but %d", all, blind)
	}
}

// q with a 0 below 0 sees what it sees with 0, and a corner that it is but for
// that holds it.
func TestNoughtBelow(t *testing.T) {
	t.Parallel()
	below := func(q api.Point) []api.Point {
		list := []api.Point{q}
		if floatX(q) == 0 {
			list = append(list, api.Point{X: q.X ^ signBit, Y: q.Y})
		}
		if floatY(q) == 0 {
			for _, q := range list {
				list = append(list, api.Point{X: q.X, Y: q.Y ^ signBit})
			}
		}
		return list
	}
	for _, h := range rounds() {
		for _, q := range append(round(0, 0, 0, -9, 0, 17, 0, greatest, -3, 0, 25, 0, greatest, 0, 0, least, -least, 0), h...) {
			if !held(h, q) {
				right, left, _ := checkSeen(t, h, q)
				for _, q := range below(q) {
					wantCorners(t, h, q, right, left)
				}
				continue
			}
			for _, q := range below(q) {
				wantRefused(t, h, q, api.NoTangent)
			}
		}
	}
}

// Within, on a border, at a corner: no corner is told, of any round.
func TestNoTangent(t *testing.T) {
	t.Parallel()
	square, slant := round(0, 0, 2, 0, 2, 2, 0, 2), round(-3, -1, 6, 2, 0, 9)
	for _, c := range []struct {
		h []api.Point
		q api.Point
	}{
		{square, at(1, 1)}, {square, at(least, least)}, {square, at(under(2), under(2))}, {square, at(2, 1)}, {square, at(1, 0)}, {square, at(1, noughtBelow)}, {square, at(noughtBelow, 1)}, {square, at(1, 2)}, {square, at(0, 0)}, {square, at(noughtBelow, noughtBelow)}, {square, at(2, 0)}, {square, at(2, noughtBelow)}, {square, at(2, 2)}, {square, at(noughtBelow, 2)},
		{slant, at(3, 1)}, {slant, at(0, 0)}, {slant, at(1, 3)}, {slant, at(noughtBelow, 9)}, {slant, at(-1, 5)},
		{round(3, 4), at(3, 4)}, {round(0, 0), at(noughtBelow, 0)}, {round(0, 4), at(noughtBelow, 4)}, {round(4, 0), at(4, noughtBelow)},
		{round(0, 0, 2, 0), at(1, 0)}, {round(0, 0, 2, 0), at(1, noughtBelow)}, {round(0, 0, 2, 0), at(0, noughtBelow)}, {round(0, 0, 2, 0), at(2, 0)}, {round(0, -1, 0, 1), at(noughtBelow, 0)}, {round(-3, -1, 6, 2), at(3, 1)}, {round(-3, -1, 6, 2), at(0, noughtBelow)}, {round(-greatest, -greatest, greatest, greatest), at(least, least)},
	} {
		wantRefused(t, c.h, c.q, api.NoTangent)
	}
	for _, h := range append(rounds(), wheel(300), bowl(300, -9)) {
		for _, q := range h {
			wantRefused(t, h, q, api.NoTangent)
		}
	}
}

// wrongRounds: such as aren't right, of good points.
func wrongRounds() [][]api.Point {
	list := [][]api.Point{
		// Two: that fall, that are alike, of like x; one that isn't its Norm.
		round(1, 0, 0, 0), round(3, 3, 3, 3), round(0, least, 0, -least), round(over(1), -5, 1, 5), round(noughtBelow, 3), round(noughtBelow, noughtBelow), round(noughtBelow, 0, 0, 0),
		// In one line.
		round(0, 0, 1, 1, 2, 2), round(0, 0, 2, 2, 1, 1), round(0, 0, 0, 1, 0, 2), round(0, 0, 1, 0, 2, 0, 1, 0), round(-greatest, -greatest, 0, 0, greatest, greatest),
		// From elsewhere; the other way round; both.
		round(2, 0, 2, 2, 0, 2, 0, 0), round(0, 2, 0, 0, 2, 0, 2, 2), round(1, 0, 0, 1, 0, 0), round(0, 0, 0, 2, 2, 0), round(0, 0, 0, 2, 2, 2, 2, 0), round(2, 0, 0, 0, 0, 2, 2, 2),
		// A corner twice, in a row and apart.
		round(0, 0, 0, 0, 2, 0, 2, 2), round(0, 0, 2, 0, 2, 2, 2, 2), round(0, 0, 2, 0, 2, 2, 0, 0), round(0, 0, 2, 0, 0, 0, 2, 2), round(0, 0, 1, 1, 1, 1), round(0, 0, 0, 0),
		// One on a border, at each; within; a star.
		round(0, 0, 1, 0, 2, 0, 2, 2, 0, 2), round(0, 0, 2, 0, 2, 1, 2, 2, 0, 2), round(0, 0, 2, 0, 2, 2, 1, 2, 0, 2), round(0, 0, 2, 0, 2, 2, 0, 2, 0, 1), round(0, 0, 4, 2, 3, 3, 2, 4), round(0, 0, 1, 0.25, 2, 0, 2, 2, 0, 2), round(0, 0, 2, 0, 2, 2, 0, 2, 1, 1), round(0, 0, 2, 2, 2, 0, 0, 2), round(0, 0, 2, 0, 0, 2, 2, 2),
		// 0 below 0, at the first place, at the last one and between.
		round(noughtBelow, 0, 2, 0, 2, 2, 0, 2), round(0, 0, 2, noughtBelow, 2, 2, 0, 2), round(0, 0, 2, 0, 2, 2, noughtBelow, 2), round(0, noughtBelow, 2, 0, 2, 2, 0, 2), round(-1, 0, 0, -1, 1, 0, noughtBelow, 1), round(-1, noughtBelow, 1, 0), round(-1, 0, 1, noughtBelow),
	}
	for n := 5; n < 40; n += 3 {
		var star []api.Point
		for i := range n {
			star = append(star, wheel(n)[i*2%n])
		}
		list = append(list, star, slices.Repeat(wheel(n), 2), slices.Repeat(bowl(n, 0), 3), turned(wheel(n), n/2), turned(bowl(n, -3), n-1), back(wheel(n)), back(bowl(n, -n)))
	}
	return list
}

// Rounds that aren't right, whatever is asked of them: from without, from their
// points, from within, and from points that Holds says that they hold.
func TestNotRight(t *testing.T) {
	t.Parallel()
	by := dice(4)
	for _, h := range wrongRounds() {
		if isRight(h) {
			t.Errorf("%s is a right round", seen(h...))
		}
		for _, q := range append(around(h, by), round(1, 1, 1, 0, 9, 9, -1, -1, 0.5, 1, 5, 1)...) {
			wantRefused(t, h, q, api.Below)
		}
	}
}

// bads: bits that are none, infinite ones and others, of both signs, as X, as Y,
// and as both.
func bads() (list []api.Point) {
	for _, b := range []uint64{infinite, infinite | 1, infinite | 1<<51, infinite | (1<<52 - 1), math.Float64bits(math.NaN())} {
		for _, b := range []uint64{b, b | signBit} {
			list = append(list, api.Point{X: b}, api.Point{Y: b}, api.Point{X: signBit, Y: b}, api.Point{X: b, Y: math.Float64bits(-5)}, api.Point{X: b, Y: infinite}, api.Point{X: math.Float64bits(greatest), Y: b})
		}
	}
	return list
}

// faultAt: is it a fault of BadPoint, and nothing else, at that place, and
// told as the document says faults are?
func faultAt(e error, place int) bool {
	var f *api.Fault
	var c api.Code
	return errors.As(e, &f) && f.At == place && f.Err != nil && f.Err == api.BadPoint &&
		errors.As(e, &c) && c == api.BadPoint && errors.Is(e, api.BadPoint) && e.Error() == fmt.Sprintf("%d: E1", place)
}

// wantFaults: do both tell that place, and 0 beside it?
func wantFaults(t *testing.T, h []api.Point, q api.Point, want int) {
	t.Helper()
	for _, s := range sides() {
		if place, e := s.corner(h, q); place != 0 || !faultAt(e, want) {
			t.Errorf("P14.1: %s of %s from %s: %d %v, not at %d", s.name, seen(h...), seen(q), place, e, want)
		}
	}
}

// One that isn't good, at the first place, the last one, and each other, and
// such behind it: the first is told, be the round right without it, or not.
func TestBadPoints(t *testing.T) {
	t.Parallel()
	for k, bad := range bads() {
		for _, n := range []int{1, 2, 3, 4, 9, 40} {
			for place := range n {
				for _, h := range [][]api.Point{bowl(n, 0), back(bowl(n, -2)), slices.Repeat(round(1, 1), n)} {
					h[place] = bad
					wantFaults(t, h, at(0, 1), place)
					wantFaults(t, h, at(-7, -7), place)
					wantFaults(t, h, bad, place)
					h[n-1] = bads()[(k+place)%len(bads())]
					wantFaults(t, h, at(0, 1), place)
					h[place+(n-place)/2] = bads()[n]
					wantFaults(t, h, h[place], place)
				}
			}
		}
	}
	for place := range 30 {
		long := wheel(300)
		long[10*place] = bads()[place]
		wantFaults(t, long, at(0, 0), 10*place)
	}
}

// q counts behind the corners: alone wrong it is told there, be the round right,
// or not, or without points.
func TestBadAsked(t *testing.T) {
	t.Parallel()
	list := append(rounds()[:40], wrongRounds()...)
	list = append(list, nil, []api.Point{}, wheel(300), slices.Repeat(wheel(50), 100))
	for _, bad := range bads() {
		for _, h := range list {
			wantFaults(t, h, bad, len(h))
		}
	}
}

// A round without points shows nothing.
func TestEmptyHull(t *testing.T) {
	t.Parallel()
	for _, q := range round(0, 0, noughtBelow, noughtBelow, 1, -5, greatest, least) {
		wantRefused(t, nil, q, api.EmptyHull)
		wantRefused(t, []api.Point{}, q, api.EmptyHull)
		wantRefused(t, round(1, 1, 2, 2)[:0], q, api.EmptyHull)
	}
}

// Codes are told as they are, and at no place but where the document says so.
func TestCodes(t *testing.T) {
	t.Parallel()
	for _, s := range sides() {
		for _, c := range []struct {
			h    []api.Point
			q    api.Point
			want api.Code
		}{{nil, at(1, 1), api.EmptyHull}, {round(2, 2, 1, 1), at(5, 0), api.Below}, {round(1, 1), at(1, 1), api.NoTangent}} {
			_, e := s.corner(c.h, c.q)
			var f *api.Fault
			var code api.Code
			if !errors.As(e, &code) || code != c.want || errors.As(e, &f) {
				t.Errorf("P14.1: %s of %s from %s: %v", s.name, seen(c.h...), seen(c.q), e)
			}
		}
	}
}

// A fault is the caller's to change.
func TestFaultsApart(t *testing.T) {
	t.Parallel()
	for range 3 {
		for _, s := range sides() {
			_, e := s.corner(bowl(3, 0), bads()[1])
			var f *api.Fault
			if !faultAt(e, 3) || !errors.As(e, &f) {
				t.Fatalf("P14.1: a fault, changed: %v", e)
			}
			f.At, f.Err = 77, api.Range
		}
	}
}

// What is handed in stays as it is, its spare room too, whatever is answered.
func TestUnchanged(t *testing.T) {
	t.Parallel()
	list := append(rounds()[:60], wrongRounds()...)
	list = append(list, append(bowl(4, 0), bads()[3]), wheel(200))
	for i, h := range list {
		all := slices.Concat(h, bowl(5, 3), bads()[:2])
		want := slices.Clone(all)
		for _, q := range append(round(0, 0, 7, -5, greatest, 1), bads()[i%60], h[0]) {
			for _, s := range sides() {
				place, e := s.corner(all[:len(h)], q)
				again, e2 := s.corner(h, q)
				if !slices.Equal(all, want) {
					t.Fatalf("P14.1: %s changed %s from %s", s.name, seen(want...), seen(q))
				}
				if place != again || (e == nil) != (e2 == nil) {
					t.Errorf("P14.1: %s of %s from %s: %d %v, and then %d %v", s.name, seen(h...), seen(q), place, e, again, e2)
				}
			}
		}
	}
}
