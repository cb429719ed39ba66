package hulls_test

import (
	"math/rand/v2"
	"slices"
	"testing"

	"outrigger/api"
)

// ray: points in one line with a least one of (0, 0), that many times as far
// from it as (x, y).
func ray(x, y float64, times ...float64) (l []api.Point) {
	for _, n := range times {
		l = append(l, at(x*n, y*n))
	}
	return l
}

// On ways from the least point lie many, near and far: on the first one, on
// the last one, and in between; just the farthest ones can be corners.
func TestRays(t *testing.T) {
	t.Parallel()
	by := dice(14)
	for _, c := range []struct{ l, want []api.Point }{
		// On the first one alone, on the last one alone, on both.
		{slices.Concat(ray(1, -1, 1, 2, 3, 4), points(0, 0, 1, 3)), points(0, 0, 4, -4, 1, 3)},
		{slices.Concat(ray(1, 3, 1, 2, 3, 4), points(0, 0, 1, -1)), points(0, 0, 1, -1, 4, 12)},
		{slices.Concat(ray(1, -1, 1, 2, 5), ray(1, 1, 1, 2, 3), points(0, 0)), points(0, 0, 5, -5, 3, 3)},
		// In between: farther than the line from the first one to the last one, in it, and nearer.
		{slices.Concat(ray(1, -1, 1, 2), ray(1, 0, 1, 2, 3), ray(1, 1, 1, 2), points(0, 0)), points(0, 0, 2, -2, 3, 0, 2, 2)},
		{slices.Concat(ray(1, -1, 1, 2), ray(1, 0, 0.5, 1, 2), ray(1, 1, 1, 2), points(0, 0)), points(0, 0, 2, -2, 2, 2)},
		{slices.Concat(ray(1, -1, 1, 2), ray(1, 0, 0.5, 1, 1.5), ray(1, 1, 1, 2), points(0, 0)), points(0, 0, 2, -2, 2, 2)},
		// Upright ones, the last there can be, and such as are next to it.
		{slices.Concat(ray(0, 1, 1, 2, 3), ray(1, 0, 1, 2, 3), points(0, 0)), points(0, 0, 3, 0, 0, 3)},
		{slices.Concat(ray(0, 1, 1, 2, 3), ray(1, -1e300, 1, 2, 3), points(0, 0)), points(0, 0, 3, -3e300, 0, 3)},
		{slices.Concat(ray(0, greatest, 1, 0.5), ray(least, greatest, 1), points(0, 0)), points(0, 0, least, greatest, 0, greatest)},
		// Too near, or too far, for floats to be sure which is farther.
		{slices.Concat(ray(1, 1, least, 2*least, 3*least), ray(3, -1, least, 2*least), points(0, 0)), points(0, 0, 6*least, -2*least, 3*least, 3*least)},
		{slices.Concat(ray(1, 0.5, greatest, under(greatest), 0x1p1023, 1, 0x1p-1000), ray(0, 1, least, greatest, 1), points(0, 0)), points(0, 0, greatest, greatest/2, 0, greatest)},
		{slices.Concat(ray(1, 1, 1, over(1), over(over(1)), under(1)), ray(1, 0, over(1), 1, over(over(1))), points(0, 0)), points(0, 0, over(over(1)), 0, over(over(1)), over(over(1)))},
	} {
		for _, l := range [][]api.Point{c.l, append(slices.Repeat(points(noughtBelow, 0, 0, noughtBelow), 3), c.l...)} {
			if words := hullOf(l); !slices.Equal(words, c.want) {
				t.Errorf("%s: the words tell %s, not %s", seen(l...), seen(words...), seen(c.want...))
			}
			checkAnyOrder(t, l, c.want, by)
			checkFollows(t, l)
		}
	}
	// The nearer and the farther in each order.
	small := slices.Concat(points(0, 0), ray(2, -1, 1, 2), ray(1, 0, 1, 3), ray(1, 2, 1, 2))
	orders(small, 0, func(l []api.Point) { wantHull(t, l, points(0, 0, 4, -2, 2, 4)) })
	small = slices.Concat(points(0, 0), ray(1, -2, 1, 2), ray(1, 0, 2, 3), ray(0, 1, 1, 2))
	orders(small, 0, func(l []api.Point) { wantHull(t, l, points(0, 0, 2, -4, 3, 0, 0, 2)) })
}

// fan: rays from (0, 0), each of up to so many points, of like sizes and of
// very unlike ones, some beside their ray by a float, and (0, 0) itself.
func fan(rays, length int, by *rand.Rand) []api.Point {
	l := points(0, 0)
	for n := range rays {
		x, y := float64(1+by.IntN(12)), float64(by.IntN(25)-12)
		if n == 0 {
			x, y = 0, 1
		}
		size := []float64{1, 0x1p-1060, 0x1p-520, 0x1p600, 0x1p1015}[by.IntN(5)]
		for range 1 + by.IntN(length) {
			far := float64(1+by.IntN(8)) * []float64{1, size}[by.IntN(2)]
			p := at(x*far, y*far)
			switch by.IntN(9) {
			case 0:
				p.Y = at(0, over(floatY(p))).Y
			case 1:
				p.Y = at(0, under(floatY(p))).Y
			}
			l = append(l, p)
		}
	}
	return l
}

// Fans by chance: by the words, and greater ones by sides.
func TestFans(t *testing.T) {
	t.Parallel()
	by := dice(15)
	inLine := 0
	for n := range 250 {
		l := fan(1+n%9, 1+n%7, by)
		inLine += len(onceOf(l)) - len(hullOf(l))
		checkAnyOrder(t, shuffled(l, by), hullOf(l), by)
		checkFollows(t, l)
	}
	if inLine < 1000 {
		t.Errorf("but %d are no corners", inLine)
	}
	for range 6 {
		l := fan(30, 15, by)
		checkAnyOrder(t, shuffled(l, by), hullBySides(l), by)
		checkFollows(t, l)
	}
}

// arc: n points to the right of (0, 0), that turn to the left around it, each
// a corner. The first one lies level with it, n^2 to its right.
func arc(n int) (l []api.Point) {
	for k := range n {
		x, y := float64(n*n-k*k), float64(k)
		l = append(l, at(x, y))
	}
	return l
}

// Corners all along, till a last point takes them back at once: all, all but
// the first one, or some.
func TestManyTakenBack(t *testing.T) {
	t.Parallel()
	by := dice(16)
	for _, n := range []int{3, 5, 20, 60} {
		far := float64(n * n)
		bent := append(points(0, 0), arc(n)...)
		wantHull(t, shuffled(bent, by), bent)
		checkTakenBack(t, bent, points(far, 1e9), points(0, 0, far, 0, far, 1e9), by)
		checkTakenBack(t, bent, points(far, 1e9, 2*far, 0), points(0, 0, 2*far, 0, far, 1e9), by)
		checkTakenBack(t, bent, points(far, 1e9, 2*far, -5), points(0, 0, 2*far, -5, far, 1e9), by)
		// Of the first ones of the arc some stay.
		for k := 1; k < n; k++ {
			last := at(far-float64(k*k), 1e9)
			checkTakenBack(t, bent, []api.Point{last}, hullBySides(append(slices.Clone(bent), last)), by)
		}
		// One takes back some, the next one that one and the others.
		some := points(far-1, float64(n), far-1, 1e3, far, 1e6, far+1, 1e8)
		checkTakenBack(t, bent, some, hullBySides(append(slices.Clone(bent), some...)), by)
	}
	for _, n := range []int{1000, 5000} {
		far := float64(n * n)
		l := slices.Concat(points(0, 0), arc(n), points(far, 1e12))
		wantHull(t, l, points(0, 0, far, 0, far, 1e12))
		wantHull(t, shuffled(l, by), points(0, 0, far, 0, far, 1e12))
		wantHull(t, shuffled(l[:n+1], by), l[:n+1])
	}
}

// checkTakenBack: are those the corners of the bent ones and the last ones, in
// each view, and of each size?
func checkTakenBack(t *testing.T, bent, last, want []api.Point, by *rand.Rand) {
	t.Helper()
	if sides := hullBySides(slices.Concat(bent, last)); !slices.Equal(sides, want) {
		t.Errorf("%s and %s: the sides tell %s, not %s", seen(bent...), seen(last...), seen(sides...), seen(want...))
	}
	for _, size := range []float64{1, least, 0x1p-500, 0x1p900} {
		for _, view := range views() {
			l := seenFrom(times(slices.Concat(bent, last), size), view)
			want := hullBySides(seenFrom(times(want, size), view))
			wantHull(t, l, want)
			wantHull(t, back(l), want)
			wantHull(t, shuffled(l, by), want)
		}
	}
}
