package hulls_test

import (
	"math"
	"math/big"
	"math/rand/v2"
	"slices"
	"testing"

	"outrigger/api"
	"outrigger/shape"
)

// Between the least point and the greatest one the others lie on one side alone
// of the line through these, on the other, on both, and on it.
func TestSidesOfALine(t *testing.T) {
	t.Parallel()
	by := dice(17)
	above := func(n int) (l []api.Point) {
		for range n {
			l = append(l, at(float64(by.IntN(15)-7), float64(1+by.IntN(9))))
		}
		return l
	}
	below := func(n int) []api.Point { return seenFrom(above(n), views()[1]) }
	on := func(n int) (l []api.Point) {
		for range n {
			l = append(l, at(float64(by.IntN(17)-8), []float64{0, noughtBelow}[by.IntN(2)]))
		}
		return l
	}
	ends := points(-8, 0, 8, 0)
	for n := range 120 {
		k := 1 + n%11
		for _, others := range [][]api.Point{above(k), below(k), on(k), append(above(k), below(k)...), append(above(k), on(k)...), append(on(k), below(k)...), slices.Concat(above(k), on(k), below(k))} {
			l := append(others, ends...)
			want := hullOf(l)
			if want[0] != ends[0] || !slices.Contains(want, ends[1]) {
				t.Errorf("the hull of %s is %s", seen(l...), seen(want...))
			}
			for _, lift := range []float64{0, 0.5, -3} {
				// Lifted so far for each step to the right, it slants.
				slant := func(p api.Point) api.Point { return at(floatX(p), floatY(p)+lift*floatX(p)) }
				for _, size := range []float64{1, 0x1p-1070, 0x1p1017} {
					wantHull(t, shuffled(times(seenFrom(l, slant), size), by), times(seenFrom(want, slant), size))
				}
			}
		}
	}
	for _, l := range [][]api.Point{append(above(6), ends...), append(below(6), ends...), append(on(6), ends...), slices.Concat(above(4), on(4), below(4), ends)} {
		checkAnyOrder(t, l, hullOf(l), by)
		checkFollows(t, l)
	}
}

// row: points in one line, from (x, y) on, that many times (stepX, stepY) on.
func row(x, y, stepX, stepY float64, n int) (l []api.Point) {
	for i := range n {
		l = append(l, at(x+float64(i)*stepX, y+float64(i)*stepY))
	}
	return l
}

// inTurn: of a row the ends first, the ends last, one of both first, and the ends in between.
func inTurn(row []api.Point) [][]api.Point {
	last := len(row) - 1
	one, inner, other := row[:1:1], row[1:last:last], row[last:]
	half := len(inner) / 2
	return [][]api.Point{
		row, back(row), slices.Concat(one, other, inner), slices.Concat(inner, other, one), slices.Concat(other, inner, one),
		slices.Concat(inner[:half], one, other, inner[half:]), slices.Concat(inner[:half], other, one, inner[half:]), slices.Concat(inner[half:], one, inner[:half], other),
	}
}

// Many points equally far from a line between two others, in one line: just the
// ends of that line are corners, wherever they come in the list.
func TestEquallyFar(t *testing.T) {
	t.Parallel()
	by := dice(18)
	for _, n := range []int{2, 3, 4, 5, 8, 33} {
		for _, c := range []struct{ base, far []api.Point }{
			{points(-40, 0, 40, 0), row(-30, -6, 1, 0, n)}, {points(-40, 0, 40, 0), row(-30, 6, 1.5, 0, n)},
			{points(0, -50, 0, 50), row(7, -40, 0, 2, n)}, {points(0, -50, 0, 50), row(-7, -40, 0, 0.5, n)},
			{points(-50, -50, 50, 50), row(-30, -40, 1, 1, n)}, {points(-50, -100, 50, 100), row(-31, -61.5, 0.25, 0.5, n)},
			{points(-90, -30, 90, 30), row(-60, -30, 3, 1, n)}, {points(-64, 64, 64, -64), row(-32, 33, 1, -1, n)},
			// One end lies beyond an end of the line, and both do.
			{points(0, 0, 4, 0), row(-2, -3, 1, 0, n)}, {points(1, 0, 2, 0), row(0, 5, 1, 0, n)},
		} {
			nearer := middles(c.base, c.far, by)
			for _, size := range []float64{1, 0x1p-1070, 0x1p-530, 0x1p1010} {
				base, nearer := times(c.base, size), times(nearer, size)
				want := hullBySides(append(times(c.far, size), base...))
				for _, far := range inTurn(times(c.far, size)) {
					for _, l := range [][]api.Point{slices.Concat(base, far), slices.Concat(far, base), slices.Concat(base[1:], far, base[:1]), slices.Concat(nearer, far, base), slices.Concat(base, far, nearer)} {
						if !slices.Equal(hullBySides(l), want) {
							t.Errorf("%s: the hull is %s, not %s", seen(l...), seen(hullBySides(l)...), seen(want...))
						}
						wantHull(t, l, want)
					}
				}
			}
			l := slices.Concat(c.base, c.far, nearer)
			checkAnyOrder(t, l, hullOf(l), by)
			checkFollows(t, l)
		}
	}
}

// middle: that of two points, rounded where it isn't a float.
func middle(p, q api.Point) api.Point {
	return at(floatX(p)/2+floatX(q)/2, floatY(p)/2+floatY(q)/2)
}

// middles: that of the ends of a line, and some between these and points of a row.
func middles(ends, row []api.Point, by *rand.Rand) []api.Point {
	l := []api.Point{middle(ends[0], ends[1])}
	for range 5 {
		l = append(l, middle(ends[by.IntN(2)], row[by.IntN(len(row))]))
	}
	return l
}

// Rounds each of whose sides has many points in it, so that lines of every
// direction have several points farthest from them.
func TestFullSides(t *testing.T) {
	t.Parallel()
	by := dice(19)
	for _, h := range [][]api.Point{points(0, 0, 2, -2, 5, -2, 7, 0, 7, 3, 5, 5, 2, 5, 0, 3), points(0, 0, 6, 0, 6, 6, 0, 6), points(0, 0, 4, -1, 6, 0, 7, 4, 3, 5), points(-3, 0, 0, -3, 3, 0, 0, 3), points(0, 0, 9, 0, 0, 9), coarse(bowl(9))} {
		var l []api.Point
		for i, p := range h {
			q := h[(i+1)%len(h)]
			for part := range 8 {
				share := float64(part) / 8
				l = append(l, at(floatX(p)+(floatX(q)-floatX(p))*share, floatY(p)+(floatY(q)-floatY(p))*share))
			}
		}
		for _, size := range []float64{1, 0x1p-1070, 0x1p1015} {
			for _, view := range views() {
				l := times(seenFrom(l, view), size)
				want := hullBySides(l)
				if len(want) != len(h) {
					t.Errorf("%s has %s", seen(l...), seen(want...))
				}
				checkAnyOrder(t, shuffled(l, by), want, by)
			}
		}
	}
}

// byFloats: the area as floats tell it, each step rounded.
func byFloats(a, b, c api.Point) float64 {
	l := float64((floatX(b) - floatX(a)) * (floatY(c) - floatY(a)))
	r := float64((floatY(b) - floatY(a)) * (floatX(c) - floatX(a)))
	return float64(l - r)
}

// areaOf: the area, exactly, times a power of two that is always the same.
func areaOf(a, b, c api.Point) *big.Int {
	less := func(p, q uint64) *big.Int { return new(big.Int).Sub(number(p), number(q)) }
	l := new(big.Int).Mul(less(b.X, a.X), less(c.Y, a.Y))
	r := new(big.Int).Mul(less(b.Y, a.Y), less(c.X, a.X))
	return l.Sub(l, r)
}

// Points beside a line that goes along another one, rounded to where floats
// are: as floats tell it they are equally far from that, and they are not.
func TestNearlyEquallyFar(t *testing.T) {
	t.Parallel()
	by := dice(20)
	blind, wrong := 0, 0
	for n := range 500 {
		a, b := at(0, 0), at(float64(3+2*by.IntN(40)), float64(1+by.IntN(60)))
		slope := floatY(b) / floatX(b)
		away := float64(1+by.IntN(8)) * []float64{1, -1}[n%2]
		var far []api.Point
		for range 2 + n%14 {
			x := by.Float64() * floatX(b)
			y := x*slope + away
			far = append(far, at(x, []float64{y, y, over(y), under(y)}[by.IntN(4)]))
		}
		for _, p := range far[1:] {
			floats, exactly := byFloats(a, b, p)-byFloats(a, b, far[0]), areaOf(a, b, p).Cmp(areaOf(a, b, far[0]))
			if floats == 0 && exactly != 0 {
				blind++
			}
			if floats > 0 && exactly < 0 || floats < 0 && exactly > 0 {
				wrong++
			}
		}
		l := append(far, a, b)
		want := hullOf(l)
		checkAnyOrder(t, l, want, by)
		if n%10 == 0 {
			checkFollows(t, l)
			for _, power := range []int{-540, -1000, 500, 1000} {
				scaled := times(l, math.Ldexp(1, power))
				wantHull(t, scaled, hullOf(scaled))
			}
		}
	}
	if blind < 200 || wrong < 50 {
		t.Errorf("floats tell %d equally far that aren't, and %d in the wrong order", blind, wrong)
	}
}

// Points in one line along another, some of them one float nearer to it, or
// farther: the corners are others then.
func TestOneFloatNearer(t *testing.T) {
	t.Parallel()
	by := dice(21)
	moved := 0
	for _, n := range []int{3, 4, 6, 12} {
		for _, away := range []float64{-3, 3, -0x1p-60, 0x1p60} {
			for place := range n {
				for _, beside := range []func(x float64) float64{over, under} {
					far := row(-float64(n/2), away, 1, 0, n)
					far[place] = at(floatX(far[place]), beside(away))
					l := append(far, at(-20, 0), at(20, 0))
					want := hullOf(l)
					if len(want) != 4 {
						moved++
					}
					for _, far := range inTurn(far) {
						wantHull(t, append(far, l[n:]...), want)
						wantHull(t, append(l[n:len(l):len(l)], far...), want)
					}
					for _, view := range views() {
						l := seenFrom(l, view)
						checkAnyOrder(t, l, hullOf(l), by)
					}
				}
			}
		}
	}
	if moved < 50 {
		t.Errorf("but %d have other corners", moved)
	}
}

// doubling: a right round of (0, 0) and points on a way that bends to the left,
// each twice as far to the right as the one before it. Of those between (0, 0)
// and any of them that next to this lies farthest from the line between both.
func doubling(low, n int) []api.Point {
	h := points(0, 0)
	for k := range n {
		x := math.Ldexp(1, low+k)
		h = append(h, at(x, x*float64((k+1)*(k+1))))
	}
	return h
}

// roundIn: a right round in a view, right there.
func roundIn(h []api.Point, view func(p api.Point) api.Point) []api.Point {
	h = seenFrom(h, view)
	if turnOf(h[0], h[1], h[2]) < 0 {
		h = back(h)
	}
	first := slices.Index(h, slices.MinFunc(h, lexOf))
	return turned(h, first)
}

// mirrored: from below.
func mirrored(p api.Point) api.Point { return normOf(at(floatX(p), -floatY(p))) }

// The doubling rounds are what they should be: all corners, and of those
// between the first one and any other the last one is farthest.
func TestDoubling(t *testing.T) {
	t.Parallel()
	for _, h := range [][]api.Point{doubling(-1074, 50), doubling(-20, 40), doubling(950, 60)} {
		if !rightOf(h) {
			t.Errorf("no right round: %s", seen(h...))
		}
		for end := 3; end < len(h); end++ {
			for k := 1; k < end-1; k++ {
				// To the right areas are below 0.
				if areaOf(h[0], h[end], h[k]).Cmp(areaOf(h[0], h[end], h[end-1])) <= 0 {
					t.Errorf("%s: %d lies as far as %d", seen(h...), k, end-1)
				}
			}
		}
		for _, view := range append(views(), mirrored) {
			if !rightOf(roundIn(h, view)) {
				t.Errorf("no right round: %s", seen(roundIn(h, view)...))
			}
		}
	}
}

// checkAllCorners: are all of a right round corners, in whatever order?
func checkAllCorners(t *testing.T, h []api.Point, by *rand.Rand) {
	t.Helper()
	if !shape.Right(h) {
		t.Errorf("no right round: %s", seen(h...))
	}
	wantHull(t, h, h)
	wantHull(t, turned(back(h), len(h)/3), h)
	wantHull(t, shuffled(append(allBelow(h), h...), by), h)
}

// Lists that are all corners, of thousands of points, of which each farthest
// one leaves all others on one side, be it the one or the other.
func TestOnOneSide(t *testing.T) {
	t.Parallel()
	by := dice(22)
	for _, h := range [][]api.Point{doubling(-3, 5), doubling(-1074, 40), doubling(970, 40), doubling(-500, 900), doubling(-1074, 2076)} {
		for _, view := range append(views(), mirrored) {
			checkAllCorners(t, roundIn(h, view), by)
		}
		if len(h) < 100 {
			checkFollows(t, shuffled(h, by))
		}
	}
	// Two such ways, one to each side of the point that both come to.
	for _, h := range [][]api.Point{doubling(-30, 20), doubling(-1074, 2076)} {
		other := seenFrom(h[1:], func(p api.Point) api.Point { return at(-floatX(p), floatY(p)) })
		both := append(back(other), h...)
		for _, view := range append(views(), mirrored) {
			checkAllCorners(t, roundIn(both, view), by)
		}
	}
}

// The same with others that are no corners: in the lines between corners, in
// those from the first one to each, beside the corners within, and many close
// to the first one.
func TestOthersOnOneSide(t *testing.T) {
	t.Parallel()
	by := dice(23)
	for _, h := range [][]api.Point{doubling(-20, 30), doubling(-500, 1500)} {
		l := append(slices.Clone(h), times(h, 0.5)...)
		for k := 1; k+1 < len(h); k++ {
			// Exact: x are powers of two, y some bits times these. What has the
			// x of a corner lies above it, and below the line to the last one.
			l = append(l, middle(h[k], h[k+1]), at(floatX(h[k]), floatX(h[k])*(float64(k*k)+by.Float64())))
		}
		close := slices.Clone(l)
		for range 1500 {
			x := math.Ldexp(1+by.Float64(), -700-by.IntN(300))
			close = append(close, at(x, x*(20+by.Float64()*5)))
		}
		for _, view := range append(views(), mirrored) {
			want := roundIn(h, view)
			wantHull(t, shuffled(seenFrom(l, view), by), want)
			wantHull(t, seenFrom(close, view), want)
		}
		if len(h) < 100 {
			checkAnyOrder(t, l, hullBySides(l), by)
			checkFollows(t, l)
		}
	}
}

// Points in a few lines along each other: of many a line between two of them
// the farthest points are several, or those that are corners already.
func TestLayers(t *testing.T) {
	t.Parallel()
	by := dice(24)
	flat := 0
	for n := range 300 {
		var l []api.Point
		x, y := float64(by.IntN(5)), float64(by.IntN(7)-3)
		for range 2 + n%4 {
			l = append(l, row(float64(by.IntN(9)-3), float64(by.IntN(9)), x, y, 1+by.IntN(9))...)
		}
		want := hullOf(l)
		if len(want) < 3 {
			flat++
		}
		checkAnyOrder(t, shuffled(l, by), want, by)
		if n%5 == 0 {
			checkFollows(t, l)
		}
	}
	if flat > 50 {
		t.Errorf("%d hulls have no three corners", flat)
	}
}
