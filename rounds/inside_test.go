package rounds_test

import (
	"slices"
	"testing"

	"outrigger/api"
	"outrigger/filter"
	"outrigger/inside"
)

// wantWhere holds it against what is wanted.
func wantWhere(t *testing.T, h []api.Point, q api.Point, want int) {
	t.Helper()
	if where, e := inside.Where(h, q); e != nil || where != want {
		t.Errorf("P16.1: Where of %s, %s: %d %v, not %d", seen(h...), seen(q), where, e, want)
	}
}

// checkWhere holds it, of a right round, against the words, corner by corner,
// and tells what they say.
func checkWhere(t *testing.T, h []api.Point, q api.Point) int {
	t.Helper()
	want := whereOf(h, q)
	wantWhere(t, h, q, want)
	return want
}

// What the document gives, and each edge that it names, written out.
func TestWhere(t *testing.T) {
	t.Parallel()
	square, third := round(0, 0, 2, 0, 2, 2, 0, 2), round(0, 0, 4, 0, 0, 4)
	level, upright, slanting := round(0, 0, 2, 0), round(1, -1, 1, 3), round(-3, -1, 6, 2)
	flat, wide := round(-greatest, 0, 0, -least, greatest, 0, 0, least), round(-greatest, -greatest, greatest, -greatest, greatest, greatest, -greatest, greatest)
	tiny := round(0, 0, 2*least, 0, 2*least, 2*least, 0, 2*least)
	for _, c := range []struct {
		h                         []api.Point
		outside, boundary, inside []api.Point
	}{
		// None, and one.
		{nil, round(0, 0, noughtBelow, noughtBelow, 1, 1, -1, 5, greatest, -greatest, least, 0), nil, nil},
		{round(3, 4), round(4, 3, over(3), 4, 3, under(4), -3, -4, 0, 0, 3, 5, greatest, greatest), round(3, 4), nil},
		{round(0, 0), round(least, 0, 0, -least, 1, 1), round(0, 0, noughtBelow, 0, 0, noughtBelow, noughtBelow, noughtBelow), nil},
		{round(0, 4), round(0, -4, least, 4, 0, under(4)), round(0, 4, noughtBelow, 4), nil}, {round(-4, 0), round(4, 0, -4, least), round(-4, 0, -4, noughtBelow), nil},
		// Two: between both, at either, beyond either, and beside.
		{level, round(3, 0, -1, 0, over(2), 0, -least, 0, 1, least, 1, -least, greatest, noughtBelow, 2, least, 0, -least, 1, 1), round(0, 0, 2, 0, 1, 0, least, 0, under(2), 0, 1, noughtBelow, noughtBelow, noughtBelow, 2, noughtBelow), nil},
		{upright, round(1, 4, 1, -2, 1, over(3), 1, under(-1), over(1), 0, under(1), 0, 1, greatest, 1, -greatest, 0, 0), round(1, -1, 1, 3, 1, 0, 1, noughtBelow, 1, under(3), 1, over(-1), 1, least), nil},
		{slanting, round(9, 3, -6, -2, 3, over(1), 3, under(1), 0, least, least, 0, 3<<40, 1<<40, over(6), 2), round(-3, -1, 6, 2, 0, 0, 3, 1, 0, noughtBelow, 1.5, 0.5), nil},
		{round(-1, 4, 2, 1), round(3, 0, -2, 5, 0, 0, 1, over(2)), round(-1, 4, 2, 1, 0, 3, 1, 2, 0.5, 2.5, noughtBelow, 3), nil},
		{round(-greatest, -greatest, greatest, greatest), round(least, 0, 1, -1, greatest, under(greatest)), round(0, 0, least, least, -1e300, -1e300, greatest, greatest, -greatest, -greatest), nil},
		// Three: the least that something lies inside of.
		{third, round(3, over(1), 8, 0, -4, 0, 0, 8, 0, -8, -4, 8, 8, -4, over(4), 0, -least, 0, noughtBelow, over(4), 1, -least, -least, 1, 2, over(2), 4, least, least, 4, -least, -least, -1, -1), round(0, 0, 4, 0, 0, 4, 2, 0, 0, 2, 2, 2, 1, 3, 3, 1, 1, noughtBelow, noughtBelow, 1, noughtBelow, noughtBelow, least, 0, 0, least), round(1, 1, least, least, 2, under(2), under(2), 2, 1, least, least, 3, under(3), 1)},
		{round(0, 0, 1, 1, 0.5, 0.5+0x1p-53), round(0.5, over(0.5+0x1p-53), 0.5, under(0.5), 0.25, over(0.25+0x1p-54), 0.75, 0.75+0x1p-53), round(0, 0, 1, 1, 0.5, 0.5, 0.5, 0.5+0x1p-53, 0.25, 0.25, 0.25, over(0.25)), round(0.375, over(0.375))},
		{round(0, 0, least, 0, 0, least), round(least, least, -least, 0, 0, -least, 2*least, 0), round(0, 0, least, 0, 0, least, noughtBelow, least), nil},
		{round(-1, 0, 0, -1, 1, 1), round(1, 0, 0, 1, -1, -1, 1, over(1), -1, -least), round(0, 0.5, 0.5, 0, -0.5, -0.5), round(0, 0, noughtBelow, noughtBelow, 0.5, least, 0, under(0.5), 0, over(-1))},
		// A square: the document's, and on all sides.
		{square, round(4, 1, over(2), 1, 1, over(2), -least, 1, 1, -least, 3, 0, -1, 0, 0, 3, 0, -1, 2, 5, 2, -5, 5, 2, -5, 2, 3, 3, -1, -1, 3, -1, -1, 3, over(2), over(2), greatest, 1, -greatest, greatest), round(2, 1, 1, 0, 0, 1, 1, 2, 0, 0, 2, 0, 2, 2, 0, 2, 1, noughtBelow, noughtBelow, 1, noughtBelow, noughtBelow, 2, noughtBelow, noughtBelow, 2, 2, under(2), under(2), 2), round(1, 1, 0.5, 1.5, 1.5, 0.5, least, least, under(2), under(2), least, under(2), under(2), least, 0.5, 0.5, 1.5, 1.5)},
		// The greatest floats and the least ones.
		{wide, nil, round(greatest, greatest, -greatest, 0, noughtBelow, greatest, greatest, -greatest, 5, -greatest), round(0, 0, noughtBelow, least, under(greatest), under(greatest), -1e308, 1e308)},
		{flat, round(0, 2*least, 1, least, -1, -least, greatest, least, -greatest, -least, 0, 1), round(-greatest, 0, greatest, noughtBelow, 0, least, noughtBelow, -least), round(0, 0, noughtBelow, noughtBelow, 1, 0, under(greatest), 0, -under(greatest), noughtBelow)},
		{tiny, round(3*least, 0, -least, least, 1, 1, leastHigh, 0, 2*least, 3*least), round(0, least, least, 0, 2*least, least, least, 2*least, noughtBelow, noughtBelow), round(least, least)},
		{round(0, 0, greatest, least, greatest, 3*least), round(greatest, 0, greatest, 4*least, 1, least, least, 0, greatest/2, 0), round(0, 0, greatest, 2*least, greatest, least), round(0.75*greatest, 2*least)},
	} {
		for where, list := range [][]api.Point{c.outside, c.boundary, c.inside} {
			for _, q := range list {
				wantWhere(t, c.h, q, where)
				checkWhere(t, c.h, q)
			}
		}
	}
	for _, h := range [][]api.Point{{}, square[:0]} {
		wantWhere(t, h, at(0, 0), api.Outside)
	}
}

// Each hull of points of a grid, of each place in and around it, and between.
func TestWhereGrid(t *testing.T) {
	t.Parallel()
	told := [3]int{}
	for _, h := range gridHulls() {
		for x := -2.0; x <= 2; x += 0.25 {
			for y := -2.0; y <= 2; y += 0.25 {
				told[checkWhere(t, h, at(x, y))]++
			}
		}
	}
	if slices.Min(told[:]) < 2000 {
		t.Errorf("told: %v", told)
	}
}

// Right rounds of all kinds, of points around them and in their midst.
func TestWhereAround(t *testing.T) {
	t.Parallel()
	by := dice(6)
	told, blind := [3]int{}, [3]int{}
	for _, h := range rounds() {
		for _, q := range append(around(h, by), within(h)...) {
			where := checkWhere(t, h, q)
			told[where]++
			for i, p := range h {
				if _, sure := filter.Turn(p, h[(i+1)%len(h)], q); !sure && len(h) > 2 {
					blind[where]++
					break
				}
			}
		}
	}
	if slices.Min(told[:]) < 2000 || slices.Min(blind[:]) < 400 {
		t.Errorf("told: %v, of which floats aren't sure: %v", told, blind)
	}
}

// within: points in all parts of a round: in the midst of each three corners one
// behind the other and the first one, near the middle, and near each corner; as
// near to that as floats come.
func within(h []api.Point) (list []api.Point) {
	middle := func(l ...api.Point) api.Point {
		x, y := 0.0, 0.0
		for _, p := range l {
			x, y = x+floatX(p)/float64(len(l)), y+floatY(p)/float64(len(l))
		}
		return at(x, y)
	}
	list = append(list, middle(h...))
	for i, p := range h {
		next := h[(i+1)%len(h)]
		list = append(list, middle(h[0], p, next), middle(p, next), middle(p, p, p, p, p, p, p, next, h[(i+2)%len(h)]), middle(h[0], p))
	}
	return slices.DeleteFunc(list, func(p api.Point) bool { return !isGood(p) })
}

// In the line of each two corners: of one to the next one, and of the first one
// to each other, most of all. Between two of a border, at both, and beyond
// either, which is outside, though it's in one line with them.
func TestWhereInLine(t *testing.T) {
	t.Parallel()
	borders := [12]int{}
	inLines(func(h []api.Point, i, k int) {
		for _, far := range []float64{-0x1p40, -1, -0x1p-30, 0, 0x1p-30, 0.25, 0.5, 0.75, 1 - 0x1p-30, 1, 1 + 0x1p-30, 2, 3, 0x1p40} {
			q := inLine(h[i], h[k], far)
			where := checkWhere(t, h, q)
			want := api.Boundary
			if far < 0 || far > 1 {
				want = api.Outside
			}
			isBorder := i != k && (k == (i+1)%len(h) || i == (k+1)%len(h))
			if isBorder && where != want {
				t.Errorf("%s is %d of %s, by the words", seen(q), where, seen(h...))
			}
			if isBorder {
				borders[i]++
			}
			if !isBorder && i != k && 0 < far && far < 1 && where != api.Inside {
				t.Errorf("%s is %d of %s, by the words", seen(q), where, seen(h...))
			}
		}
	})
	if slices.Min(borders[:10]) < 500 {
		t.Errorf("borders: %v", borders)
	}
}

// Points in a border, in the midst, before and behind it, and one float beside
// it, of each size; wherever the border comes in its round.
func TestWhereBeside(t *testing.T) {
	t.Parallel()
	for _, c := range borders() {
		for i, q := range []api.Point{c.mid, c.before, c.behind} {
			without, within := beside(q)
			wants := []int{api.Boundary, api.Outside, api.Inside}
			if i > 0 {
				wants = []int{api.Outside, api.Outside, api.Outside}
			}
			for k, q := range []api.Point{q, without, within} {
				for _, view := range views() {
					wantWhere(t, seenFrom(c.h, view), view(q), wants[k])
					wantWhere(t, seenFrom(c.h[:2], view), view(q), wants[k]*(2-wants[k]))
					checkWhere(t, seenFrom(c.h, view), view(q))
				}
			}
		}
	}
}

// One float beside each corner, on all sides.
func TestWhereBesideCorner(t *testing.T) {
	t.Parallel()
	told := [3]int{}
	for _, h := range rounds() {
		for _, p := range h {
			for _, x := range []float64{under(floatX(p)), floatX(p), over(floatX(p))} {
				for _, y := range []float64{under(floatY(p)), floatY(p), over(floatY(p))} {
					if q := at(x, y); isGood(q) {
						told[checkWhere(t, h, q)]++
					}
				}
			}
		}
	}
	if slices.Min(told[:]) < 1000 {
		t.Errorf("told: %v", told)
	}
}

// Each corner lies on the boundary, whichever 0 it has; and wherever a point
// lies with 0, it does with 0 below 0.
func TestWhereNoughtBelow(t *testing.T) {
	t.Parallel()
	for _, h := range append(rounds(), gridHulls()...) {
		for _, p := range h {
			for _, q := range below(p) {
				wantWhere(t, h, q, api.Boundary)
			}
		}
		for _, q := range round(0, 0, 0, 1, -1, 0, 0, -0.5, 0.25, 0, 0, greatest, -greatest, 0, 0, least, -least, 0) {
			where := checkWhere(t, h, q)
			for _, q := range below(q) {
				wantWhere(t, h, q, where)
			}
		}
	}
}

// Several corners of nearly the same x, and of nearly the same y: the lines from
// the first one to them are as good as one.
func TestWhereSteep(t *testing.T) {
	t.Parallel()
	for n := 3; n < 40; n += 2 + n/3 {
		for _, size := range []float64{0x1p-50, 0x1p-300, 0x1p-1074} {
			var thin []api.Point
			for i, p := range bowl(n, 0) {
				thin = append(thin, at(floatY(p)*size, float64(i)*0x1p-10))
			}
			for _, view := range views() {
				h := seenFrom(thin, view)
				if !isRight(h) {
					t.Fatalf("%s is no right round", seen(h...))
				}
				for _, q := range within(h) {
					checkWhere(t, h, q)
				}
				for i, p := range thin {
					low, high := beside(p)
					next := thin[(i+1)%n]
					low2, high2 := beside(at((floatX(p)+floatX(next))/2, (floatY(p)+floatY(next))/2))
					for _, q := range []api.Point{low, high, low2, high2, at(floatX(p), 0), at(floatX(p), 9)} {
						checkWhere(t, h, view(q))
					}
				}
			}
		}
	}
}

// Some hundreds, and some thousands: of each part something is inside, of each
// border something on it, or beside it, and outside.
func TestWhereHundreds(t *testing.T) {
	t.Parallel()
	by := dice(7)
	for _, h := range [][]api.Point{wheel(100), times(wheel(200), 0x1p-500), bowl(150, -60), times(bowl(222, -222), 0x1p900)} {
		told := [3]int{}
		for _, q := range append(around(h, by)[:200], within(h)...) {
			told[checkWhere(t, h, q)]++
		}
		if told[api.Outside] < 100 || told[api.Boundary] < 5 || told[api.Inside] < len(h) {
			t.Errorf("of %d: %v", len(h), told)
		}
	}
	for _, h := range [][]api.Point{wheel(5000), bowl(4600, -2300)} {
		n := len(h)
		for _, i := range []int{0, 1, 2, 3, n / 4, n / 2, n - 4, n - 3, n - 2, n - 1} {
			p, next := h[i], h[(i+1)%n]
			wantWhere(t, h, p, api.Boundary)
			for _, q := range []api.Point{inLine(p, next, 0.5), inLine(p, next, 2), inLine(p, next, -1), inLine(h[0], p, 0.5), inLine(h[0], next, 0.25), inLine(inLine(p, next, 0.5), h[n/3], 0x1p-10)} {
				checkWhere(t, h, q)
			}
		}
	}
}

// Of a bowl each border is exactly in reach: its middle is on the boundary, as
// near below it as need be is outside, and above it inside.
func TestWhereEachBorder(t *testing.T) {
	t.Parallel()
	for _, n := range []int{3, 4, 5, 6, 7, 8, 9, 16, 31, 100, 333} {
		for _, from := range []int{0, 1 - n, -n / 2} {
			h := bowl(n, from)
			for i, p := range h {
				next := h[(i+1)%n]
				mid := inLine(p, next, 0.5)
				low, high := beside(mid)
				wants := []int{api.Outside, api.Boundary, api.Inside}
				if i == n-1 {
					slices.Reverse(wants) // the way back goes above all others
				}
				for k, q := range []api.Point{low, mid, high} {
					wantWhere(t, h, q, wants[k])
				}
				wantWhere(t, h, p, api.Boundary)
				wantWhere(t, h, inLine(p, next, 2), api.Outside)
				wantWhere(t, h, inLine(p, next, -1), api.Outside)
			}
		}
	}
}
