package hulls_test

import (
	"math"
	"math/rand/v2"
	"slices"
	"testing"

	"outrigger/api"
	"outrigger/inside"
)

// whereOf: where a point lies of a list of points, by what P16.2 says: outside
// what lies in none of them, in no segment and in no triangle; on the boundary
// what doesn't, and has a line through it that none of them lies to the right of.
func whereOf(l []api.Point, q api.Point) int {
	all := planeOf(append(slices.Clone(l), q))
	n, place, turn := len(all.points), slices.Index(all.points, normOf(q)), all.table()
	switch {
	case !slices.Contains(onceOf(l), normOf(q)) && !heldBy(turn, n, place):
		return api.Outside
	case hasLine(turn, n, place):
		return api.Boundary
	}
	return api.Inside
}

// hasLine: is there a line through p that has none to its right? If there is
// one, it may be turned around p till it goes through another one, if there is
// another one, and have that before p or behind it.
func hasLine(turn func(a, b, c int) int, n, p int) bool {
	for a := range n {
		right, left := false, false
		for b := range n {
			right = right || turn(p, a, b) < 0
			left = left || turn(p, a, b) > 0
		}
		if a != p && (!right || !left) {
			return true
		}
	}
	return n == 1
}

// checkWhere holds where a point lies of the hull, as each way finds it, against
// the words, and tells that.
func checkWhere(t *testing.T, l []api.Point, q api.Point) int {
	t.Helper()
	want := whereOf(l, q)
	for _, w := range ways() {
		h, _ := w.hull(l)
		if where, e := inside.Where(h, q); e != nil || where != want {
			t.Errorf("P16.2: of the hull of %s, %s: %d %v, not %d", seen(l...), seen(q), where, e, want)
		}
	}
	return want
}

// checkOwn: does each of the points lie on the boundary or inside of the hull,
// and each corner on the boundary?
func checkOwn(t *testing.T, l []api.Point) {
	t.Helper()
	for _, w := range ways() {
		h, _ := w.hull(l)
		for _, p := range l {
			if where, e := inside.Where(h, p); e != nil || where == api.Outside {
				t.Errorf("P16.2: of the hull of %s, %s: %d %v", seen(l...), seen(p), where, e)
			}
		}
		for _, p := range h {
			if where, e := inside.Where(h, p); e != nil || where != api.Boundary {
				t.Errorf("P16.2: of the hull of %s, its corner %s: %d %v", seen(l...), seen(p), where, e)
			}
		}
	}
}

// besides: the points themselves, and points beside them and between them, as
// near to that as floats come.
func besides(l []api.Point, by *rand.Rand) (list []api.Point) {
	list = append(list, allBelow(l)...)
	list = append(list, signed(l, by)...)
	for i, p := range l {
		r, s := l[by.IntN(len(l))], l[(i+1)%len(l)]
		x, y := floatX(p), floatY(p)
		onX, onY := floatX(r)-x, floatY(r)-y
		list = append(list,
			p, at(over(x), y), at(under(x), y), at(x, over(y)), at(x, under(y)),
			at(x+onX/2, y+onY/2), at(x+onX/4, over(y+onY/4)), at(x-onX, y-onY), at(x+onX*2, y+onY*2),
			at(x+onX/4+(floatX(s)-x)/4, y+onY/4+(floatY(s)-y)/4),
		)
	}
	return slices.DeleteFunc(list, isBad)
}

// A few points by chance, of all kinds, alike, in one line and nearly so.
func TestWhere(t *testing.T) {
	t.Parallel()
	by := dice(40)
	told := [3]int{}
	lists := [][]api.Point{
		points(3, 4), points(3, 4, 3, 4), points(0, 0, noughtBelow, 0), points(0, 0, 2, 0), points(2, 0, 0, 0, 2, 0), points(0, 3, 0, 1, 0, 2), points(6, 2, -3, -1, 3, 1, 0, 0), points(6, 2, -3, -1, 3, over(1), 0, 0), points(6, 2, -3, -1, 3, under(1), 0, least),
		points(0, 0, 1, 1, 0.5, 0.5+0x1p-53), points(0.5, 0.5-0x1p-54, 1, 1, 0, 0), points(0, 0, 2, 0, 2, 2, 0, 2, 1, 1, 1, 0), points(2, 2, 0, 0, 2, 0, 0, 2), points(least, 0, 0, least, 0, 0), points(greatest, 0, -greatest, 0, 0, least, 0, -least, 0, 0), points(greatest, greatest, -greatest, -greatest, 1, 1, 0, least),
		row(1, 1, 0.25, 0.125, 9), row(-3, 5, 0x1p-50, 0x1p-49, 7), bowl(7), back(bowl(6)),
	}
	for n := range 250 {
		lists = append(lists, chance(1+n%11, n, by))
	}
	for _, l := range lists {
		l = shuffled(l, by)
		checkOwn(t, l)
		for _, q := range besides(l, by) {
			told[checkWhere(t, l, q)]++
		}
	}
	if slices.Min(told[:]) < 2000 {
		t.Errorf("told: %v", told)
	}
}

// No points: outside lies whatever is good.
func TestWhereOfNone(t *testing.T) {
	t.Parallel()
	for _, q := range points(0, 0, noughtBelow, 1, greatest, -greatest, least, least) {
		if checkWhere(t, nil, q) != api.Outside {
			t.Errorf("%s isn't outside of no points, by the words", seen(q))
		}
	}
}

// Each set of points of a small grid, of each place in it, around it, and
// between.
func TestWhereGrid(t *testing.T) {
	t.Parallel()
	by := dice(41)
	for _, l := range gridSets()[1:] {
		l = shuffled(l, by)
		checkOwn(t, l)
		for range 12 {
			checkWhere(t, l, at(float64(by.IntN(9))/2-2, float64(by.IntN(9))/2-2))
			checkWhere(t, l, at(float64(by.IntN(13))/4-1.5, float64(by.IntN(13))/4-1.5))
		}
	}
}

// Lists of dozens, held against the words, and of more, each of whose points
// lies where it should.
func TestWhereHundreds(t *testing.T) {
	t.Parallel()
	by := dice(42)
	for kind := range 10 {
		l := chance(30+kind, kind, by)
		for _, q := range besides(l, by)[2*len(l):][:40] {
			checkWhere(t, l, q)
		}
		checkOwn(t, chance(150, kind, by))
	}
	for _, h := range [][]api.Point{wheel(64), bowl(64)} {
		for i := range 8 {
			p, r := h[i*5], h[(i*5+1)%64]
			checkWhere(t, h, middle(p, r))
			checkWhere(t, h, at(floatX(p)*math.Ldexp(1, -i), floatY(r)))
		}
		checkOwn(t, shuffled(h, by))
	}
}
