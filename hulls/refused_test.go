package hulls_test

import (
	"errors"
	"fmt"
	"math"
	"slices"
	"testing"

	"outrigger/api"
	"outrigger/desk"
)

// call: one of the calls of the desk, the promise that it keeps, whether it's
// asked of a point, too, and whether there must be points; what it answers, as
// whether that is nothing, and the error.
type call struct {
	promise, name   string
	ofPoint, ofSome bool
	ask             func(l []api.Point, q api.Point) (nothing bool, e error)
}

// calls: all of them, Hull by each way.
func calls() []call {
	list := []call{
		{"P19.2", "Contains", true, false, func(l []api.Point, q api.Point) (bool, error) {
			where, e := desk.Contains(l, q)
			return where == 0, e
		}},
		{"P19.2", "Tangents", true, true, func(l []api.Point, q api.Point) (bool, error) {
			left, right, e := desk.Tangents(l, q)
			return left == 0 && right == 0, e
		}},
		{"P19.3", "Diameter", false, true, func(l []api.Point, _ api.Point) (bool, error) {
			far, i, j, e := desk.Diameter(l)
			return isNone(far) && i == 0 && j == 0, e
		}},
		{"P19.3", "Width", false, true, func(l []api.Point, _ api.Point) (bool, error) {
			width, e := desk.Width(l)
			return isNone(width), e
		}},
	}
	for way := range 4 {
		list = append(list, call{"P19.1", fmt.Sprint("Hull by way ", way), false, false, func(l []api.Point, _ api.Point) (bool, error) {
			h, e := desk.Hull(l, way)
			return len(h) == 0, e
		}})
	}
	return list
}

// isNone: no ratio at all.
func isNone(r api.Ratio) bool {
	return len(r.Num.Mag) == 0 && len(r.Den.Mag) == 0 && !r.Num.Neg && !r.Den.Neg
}

// isCode: is the error that code, and at no place?
func isCode(e error, code api.Code) bool {
	var c api.Code
	var f *api.Fault
	return errors.Is(e, code) && errors.As(e, &c) && c == code && !errors.As(e, &f)
}

// isAt: is the error a fault of a point that isn't good, at that place?
func isAt(e error, place int) bool {
	var f *api.Fault
	var c api.Code
	return errors.As(e, &f) && f.At == place && errors.Is(e, api.BadPoint) && errors.As(e, &c) && c == api.BadPoint && e.Error() == fmt.Sprintf("%d: E1", place)
}

// wantCode: does the call answer that code, and nothing beside it?
func (c call) wantCode(t *testing.T, l []api.Point, q api.Point, code api.Code) {
	t.Helper()
	if nothing, e := c.ask(l, q); !nothing || !isCode(e, code) {
		t.Errorf("%s: %s of %s, %s: %v, or not nothing, not %v", c.promise, c.name, seen(l...), seen(q), e, code)
	}
}

// wantPlace: does the call tell that the point at that place isn't good, and
// nothing beside it?
func (c call) wantPlace(t *testing.T, l []api.Point, q api.Point, place int) {
	t.Helper()
	if nothing, e := c.ask(l, q); !nothing || !isAt(e, place) {
		t.Errorf("%s: %s of %s, %s: %v, or not nothing, not at %d", c.promise, c.name, seen(l...), seen(q), e, place)
	}
}

// wantNoWay: is there no such way?
func wantNoWay(t *testing.T, l []api.Point, way int) {
	t.Helper()
	if h, e := desk.Hull(l, way); len(h) != 0 || !isCode(e, api.BadName) {
		t.Errorf("P19.1: Hull of %s by way %d: %s %v", seen(l...), way, seen(h...), e)
	}
}

// Ways that there are not are told ahead of all else.
func TestDeskNoWay(t *testing.T) {
	t.Parallel()
	bad := bads()[0]
	full := slices.Repeat(points(1, 2), api.MaxPoints)
	for _, way := range []int{-1, 4, 5, 7, -2, -4, 100, 1 << 8, 1<<32 + 1, -1 << 32, math.MinInt32, math.MaxInt32, math.MinInt, math.MinInt + 1, math.MaxInt} {
		for _, l := range [][]api.Point{nil, {}, points(1, 2), points(0, 0, 2, 0, 2, 2, 0, 2), {bad}, append(bowl(5), bad), full, append(full, bad), slices.Repeat(full, 3), append([]api.Point{bad}, full...)} {
			wantNoWay(t, l, way)
		}
	}
}

// More than MaxPoints points are told ahead of what is wrong with any of them.
func TestDeskTooMany(t *testing.T) {
	t.Parallel()
	for _, n := range []int{api.MaxPoints + 1, api.MaxPoints + 2, 2 * api.MaxPoints, 100000} {
		for _, l := range [][]api.Point{make([]api.Point, n), bowl(n), slices.Repeat(points(0, 0, 2, 0, 2, 2, 0, 2), n)[:n]} {
			for _, c := range calls() {
				c.wantCode(t, l, at(1, 1), api.Range)
				c.wantCode(t, l, l[n-1], api.Range)
				c.wantCode(t, l, bads()[0], api.Range)
			}
			for i, place := range []int{0, n / 2, api.MaxPoints, n - 1} {
				l[place] = bads()[i]
				for _, c := range calls() {
					c.wantCode(t, l, at(1, 1), api.Range)
					c.wantCode(t, l, bads()[i], api.Range)
				}
			}
		}
	}
}

// The first point that isn't good is told, ahead of what is wrong with points
// behind it and with what is asked of it.
func TestDeskBadPoints(t *testing.T) {
	t.Parallel()
	for k, bad := range bads() {
		other := bads()[(k*7+3)%len(bads())]
		for _, n := range []int{1, 2, 3, 4, 5, 40, 300} {
			for place := 0; place < n; place += max(1, min(n/3, n-1-place)) {
				for _, l := range [][]api.Point{turned(bowl(n), n/3), slices.Repeat(points(noughtBelow, 3), n), slices.Repeat(points(2, 2, 1, 1), n)[:n]} {
					one := slices.Clone(l)
					one[place] = bad
					several := slices.Clone(one)
					several[n-1], several[place+(n-place)/2], several[place] = other, other, bad
					for _, c := range calls() {
						for _, q := range []api.Point{at(0, 3), at(-1e9, 3), bad, other} {
							c.wantPlace(t, one, q, place)
							c.wantPlace(t, several, q, place)
						}
					}
				}
			}
		}
	}
	full := slices.Repeat(bowl(64), api.MaxPoints/64)
	for _, place := range []int{api.MaxPoints - 1, api.MaxPoints - 2, 2000, 63, 1, 0} {
		full[place] = bads()[place%len(bads())]
		for _, c := range calls() {
			c.wantPlace(t, full, at(0, 3), place)
			c.wantPlace(t, full, bads()[1], place)
		}
	}
}

// A point that is asked about, and isn't good, is told by how many points there
// are, however few corners they have: ahead of there being none.
func TestDeskBadPointAsked(t *testing.T) {
	t.Parallel()
	lists := [][]api.Point{nil, {}, points(3, 4), points(3, 4, 3, 4), points(0, 0, 1, 1, 2, 2), points(0, 0, 2, 0, 2, 2, 0, 2, 1, 1, 1, 0), bowl(40), slices.Repeat(bowl(3), 100), make([]api.Point, api.MaxPoints), bowl(api.MaxPoints)}
	for k, bad := range bads() {
		for i, l := range lists {
			if len(l) > 300 && (k+i)%9 > 0 {
				continue
			}
			for _, c := range calls() {
				if c.ofPoint {
					c.wantPlace(t, l, bad, len(l))
				}
			}
		}
	}
}

// No points: there is nothing to see, and no size.
func TestDeskNoPoints(t *testing.T) {
	t.Parallel()
	for _, l := range [][]api.Point{nil, {}, make([]api.Point, 0, 9)} {
		wantDesk(t, l, nil)
		for _, q := range points(0, 0, noughtBelow, 1, greatest, -greatest, least, least) {
			wantWhere(t, l, q, api.Outside)
			for _, c := range calls() {
				if c.ofSome {
					c.wantCode(t, l, q, api.EmptyHull)
				}
			}
		}
	}
}

// Faults are the caller's to change.
func TestDeskFaultsApart(t *testing.T) {
	t.Parallel()
	for _, l := range [][]api.Point{bowl(3), append(bowl(3), bads()[0])} {
		for range 3 {
			for _, c := range calls() {
				if len(l) == 3 && !c.ofPoint {
					continue
				}
				c.wantPlace(t, l, bads()[1], 3)
				_, e := c.ask(l, bads()[1])
				var f *api.Fault
				if errors.As(e, &f) {
					f.At, f.Err = 77, api.Range
				}
			}
		}
	}
}

// What is handed in stays as it was, its order and its spare room too, be it
// right or wrong.
func TestDeskHandedIn(t *testing.T) {
	t.Parallel()
	by := dice(74)
	room := append(mixed(12, by), back(bowl(7))...)
	for _, c := range calls() {
		checkUnchanged(t, c.promise, room, func(l []api.Point) {
			for _, q := range []api.Point{at(-3e9, noughtBelow), at(0, 1), bads()[0]} {
				c.ask(l, q)
			}
		})
	}
}

// What is answered has memory of its own: to change it, its spare room too,
// changes neither what was handed in nor other answers.
func TestDeskOwnMemory(t *testing.T) {
	t.Parallel()
	for n := range 30 {
		for _, l := range [][]api.Point{bowl(n), back(bowl(n)), slices.Repeat(points(1, 1), n), slices.Repeat(points(0, 0, 2, 2, 1, 1), n)[:n]} {
			room := append(l, bads()...)
			for _, w := range deskWays() {
				checkApart(t, w, room, len(l))
			}
			wantDesk(t, room[:len(l)], hullBySides(l))
		}
	}
	l := times(points(0, 0, 3, 1, 1, 3), 0x1p900)
	far, i, j := farBySides(l, l)
	for range 3 {
		wantFar(t, l, far, i, j)
		wantNarrow(t, l, widthByLines(l))
		one, _, _, _ := desk.Diameter(l)
		other, _ := desk.Width(l)
		for _, limbs := range [][]uint64{one.Num.Mag, one.Den.Mag, other.Num.Mag, other.Den.Mag} {
			limbs = limbs[:cap(limbs)]
			for k := range limbs {
				limbs[k] = ^limbs[k]
			}
		}
	}
}

// deskWays: the ways to the hull that the desk knows.
func deskWays() (list []way) {
	for n := range 4 {
		list = append(list, way{"P19.1", "P19.4", "P19.4", func(l []api.Point) ([]api.Point, error) { return desk.Hull(l, n) }})
	}
	return list
}

// All ways lead to one hull, bit by bit, or to one and the same fault, of lists
// of up to MaxPoints points, in any order.
func TestDeskWays(t *testing.T) {
	t.Parallel()
	by := dice(75)
	faults := 0
	for k := range 120 {
		l := chance(1+by.IntN(300), k, by)
		if k%10 == 0 {
			l = chance(api.MaxPoints-k%3, k/10, by)
		}
		if k%3 == 0 {
			for range 1 + by.IntN(3) {
				l[by.IntN(len(l))] = bads()[by.IntN(len(bads()))]
			}
			faults++
		}
		for _, l := range [][]api.Point{l, shuffled(l, by), back(l)} {
			checkSame(t, l)
		}
	}
	for n := range 7 {
		for range 200 {
			l := chance(n, by.IntN(5), by)
			checkSame(t, l)
			checkSame(t, append(l, l...))
		}
	}
	if faults < 30 {
		t.Errorf("%d faults", faults)
	}
}

// checkSame: do all ways tell the same of the points?
func checkSame(t *testing.T, l []api.Point) {
	t.Helper()
	first, e := desk.Hull(l, 0)
	for way := 1; way < 4; way++ {
		h, e2 := desk.Hull(l, way)
		place := slices.IndexFunc(l, isBad)
		switch {
		case place >= 0 && (!isAt(e, place) || !isAt(e2, place)):
			t.Errorf("P19.4: Hull of %s: %v, by way %d %v, not at %d", seen(l...), e, way, e2, place)
		case place < 0 && (e != nil || e2 != nil) || !slices.Equal(h, first):
			t.Errorf("P19.4: Hull of %s: %s %v, by way %d %s %v", seen(l...), seen(first...), e, way, seen(h...), e2)
		}
	}
}
