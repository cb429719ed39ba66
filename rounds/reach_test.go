package rounds_test

import (
	"errors"
	"slices"
	"testing"

	"outrigger/api"
	"outrigger/filter"
	"outrigger/reach"
)

// side: one of both calls, and on which side none may lie.
type side struct {
	question
	turn int
}

func sides() []side {
	return []side{{question{"reach.Right", "P14.1", reach.Right}, -1}, {question{"reach.Left", "P14.1", reach.Left}, 1}}
}

// wantCorners holds both against what is wanted.
func wantCorners(t *testing.T, h []api.Point, q api.Point, right, left int) {
	t.Helper()
	for i, want := range []int{right, left} {
		s := sides()[i]
		if place, e := s.ask(h, q); e != nil || place != want {
			t.Errorf("P14.1: %s of %s from %s: %d %v, not %d", s.name, seen(h...), seen(q), place, e, want)
		}
	}
}

// wantUnseen: do both tell that, and 0 beside it?
func wantUnseen(t *testing.T, h []api.Point, q api.Point, want error) {
	t.Helper()
	for _, s := range sides() {
		s.wantRefused(t, h, q, want)
	}
}

// checkSeen holds both, of a right round, against the words, corner by corner,
// and tells what they answered, if q isn't held; of few corners it asks, too,
// that the words give no other one.
func checkSeen(t *testing.T, h []api.Point, q api.Point) (right, left int, seenAny bool) {
	t.Helper()
	if held(h, q) {
		wantUnseen(t, h, q, api.NoTangent)
		return 0, 0, false
	}
	var places [2]int
	from := sightOf(h, q)
	for i, s := range sides() {
		place, e := s.ask(h, q)
		if e != nil || place < 0 || place >= len(h) || !from.isOutermost(place, s.turn) {
			t.Errorf("P14.1: %s of %s from %s: %d %v", s.name, seen(h...), seen(q), place, e)
			return 0, 0, false
		}
		if len(h) <= 8 && len(from.outermost(s.turn)) != 1 {
			t.Errorf("%s of %s from %s: %v, by the words", s.name, seen(h...), seen(q), from.outermost(s.turn))
		}
		places[i] = place
	}
	for i := range h {
		if from.turn(places[0], i) < 0 || from.turn(places[1], i) > 0 || len(h) == 1 && places != [2]int{} {
			t.Errorf("P14.2: of %s from %s, %d lies not between %v", seen(h...), seen(q), i, places)
		}
	}
	return places[0], places[1], true
}

// What the document gives, and each edge that it names, written out.
func TestCorners(t *testing.T) {
	t.Parallel()
	square, third := round(0, 0, 2, 0, 2, 2, 0, 2), round(0, 0, 4, 0, 0, 4)
	level, upright, slanting, falling := round(0, 0, 2, 0), round(1, -1, 1, 3), round(-3, -1, 6, 2), round(-1, 4, 2, 1)
	for _, c := range []struct {
		h           []api.Point
		q           api.Point
		right, left int
	}{
		{square, at(4, 1), 2, 1},
		// One: it is both.
		{round(3, 4), at(9, 9), 0, 0}, {round(3, 4), at(over(3), 4), 0, 0}, {round(3, 4), at(3, under(4)), 0, 0}, {round(0, 0), at(least, noughtBelow), 0, 0}, {round(0, 0), at(-greatest, greatest), 0, 0},
		// Two: to either side of their line, above, below, near and far.
		{level, at(1, 1), 0, 1}, {level, at(1, -1), 1, 0}, {level, at(0, 5), 0, 1}, {level, at(2, -5), 1, 0}, {level, at(1, least), 0, 1}, {level, at(1, -least), 1, 0}, {level, at(greatest, least), 0, 1}, {level, at(-greatest, -least), 1, 0}, {level, at(-7, 9), 0, 1}, {level, at(12, -9), 1, 0},
		{upright, at(0, 0), 0, 1}, {upright, at(4, 0), 1, 0}, {upright, at(under(1), 77), 0, 1}, {upright, at(over(1), 77), 1, 0}, {upright, at(over(1), -77), 1, 0}, {upright, at(-greatest, 3), 0, 1}, {upright, at(greatest, -1), 1, 0},
		{slanting, at(3, over(1)), 0, 1}, {slanting, at(3, under(1)), 1, 0}, {slanting, at(9, over(3)), 0, 1}, {slanting, at(9, under(3)), 1, 0}, {slanting, at(-6, over(-2)), 0, 1}, {slanting, at(-6, under(-2)), 1, 0}, {falling, at(9, 9), 0, 1}, {falling, at(0, 0), 1, 0},
		// Two, in their line: behind the second, and before the first.
		{level, at(3, 0), 0, 0}, {level, at(over(2), noughtBelow), 0, 0}, {level, at(greatest, 0), 0, 0}, {level, at(-1, 0), 1, 1}, {level, at(-least, noughtBelow), 1, 1}, {level, at(-greatest, 0), 1, 1},
		{upright, at(1, 5), 0, 0}, {upright, at(1, over(3)), 0, 0}, {upright, at(1, greatest), 0, 0}, {upright, at(1, -2), 1, 1}, {upright, at(1, under(-1)), 1, 1}, {upright, at(1, -greatest), 1, 1},
		{slanting, at(9, 3), 0, 0}, {slanting, at(3<<40, 1<<40), 0, 0}, {slanting, at(-6, -2), 1, 1}, {slanting, at(-3<<40, -1<<40), 1, 1}, {falling, at(3, 0), 0, 0}, {falling, at(1<<50, 3-1<<50), 0, 0}, {falling, at(-2, 5), 1, 1}, {falling, at(-1<<50, 3+1<<50), 1, 1},
		// Three: beyond each corner, opposite each line, in each line on either end.
		{third, at(-1, -1), 1, 2}, {third, at(6, -1), 2, 0}, {third, at(-1, 6), 0, 1}, {third, at(1, -1), 1, 0}, {third, at(3, 3), 2, 1}, {third, at(-1, 1), 0, 2},
		{third, at(8, 0), 2, 0}, {third, at(-4, 0), 1, 2}, {third, at(0, 8), 0, 1}, {third, at(0, -8), 1, 2}, {third, at(-4, 8), 0, 1}, {third, at(8, -4), 2, 0}, {third, at(over(4), 0), 2, 0}, {third, at(-least, 0), 1, 2}, {third, at(noughtBelow, over(4)), 0, 1}, {third, at(noughtBelow, -least), 1, 2},
		{third, at(8, least), 2, 1}, {third, at(8, -least), 2, 0}, {third, at(-4, least), 0, 2}, {third, at(-4, -least), 1, 2}, {third, at(least, 8), 2, 1}, {third, at(-least, 8), 0, 1}, {third, at(least, -8), 1, 0}, {third, at(-least, -8), 1, 2}, {third, at(-4, over(8)), 0, 1}, {third, at(-4, under(8)), 0, 2}, {third, at(over(8), -4), 2, 0}, {third, at(under(8), -4), 1, 0},
		// A square: on all sides, beyond each corner, in each line on either end.
		{square, at(1, -3), 1, 0}, {square, at(1, 9), 3, 2}, {square, at(-1, 1), 0, 3}, {square, at(4, 4), 3, 1}, {square, at(-4, -4), 1, 3}, {square, at(4, -1), 2, 0}, {square, at(-1, 5), 0, 2}, {square, at(4, 0), 2, 0}, {square, at(-3, 0), 1, 3}, {square, at(2, 5), 3, 1}, {square, at(2, -5), 2, 0}, {square, at(5, 2), 3, 1}, {square, at(-5, 2), 0, 2}, {square, at(0, 7), 0, 2}, {square, at(0, -7), 1, 3},
		{square, at(over(2), 1), 2, 1}, {square, at(over(2), 0), 2, 0}, {square, at(over(2), over(2)), 3, 1}, {square, at(over(2), -least), 2, 0}, {square, at(1, -least), 1, 0}, {square, at(noughtBelow, -least), 1, 3}, {square, at(-least, noughtBelow), 1, 3}, {square, at(greatest, 1), 2, 1}, {square, at(greatest, greatest), 3, 1}, {square, at(-greatest, greatest), 0, 2}, {square, at(-greatest, 2), 0, 2}, {square, at(-greatest, under(2)), 0, 3}, {square, at(2, -greatest), 2, 0}, {square, at(under(2), -greatest), 1, 0},
		// The greatest and the least floats.
		{round(-greatest, -greatest, greatest, -greatest, 0, greatest), at(greatest, greatest), 2, 1}, {round(-greatest, -greatest, greatest, -greatest, 0, greatest), at(-greatest, greatest), 0, 2}, {round(-greatest, 0, greatest, 0, 0, greatest), at(0, -least), 1, 0}, {round(-greatest, 0, 0, -least, greatest, 0, 0, least), at(greatest, least), 3, 2}, {round(-greatest, 0, 0, -least, greatest, 0, 0, least), at(least, -greatest), 2, 0}, {round(0, 0, least, 0, least, least, 0, least), at(greatest, least), 3, 1}, {round(0, 0, least, 0, least, least, 0, least), at(greatest, 2*least), 3, 1}, {round(0, 0, least, 0, least, least, 0, least), at(2*least, 0), 2, 0},
	} {
		wantCorners(t, c.h, c.q, c.right, c.left)
		checkSeen(t, c.h, c.q)
	}
}

// Each hull of points of a grid, from each place of a greater one around it.
func TestGrid(t *testing.T) {
	t.Parallel()
	for _, h := range gridHulls() {
		for x := -3.0; x <= 3; x++ {
			for y := -3.0; y <= 3; y++ {
				checkSeen(t, h, at(x, y))
			}
		}
	}
}

// Right rounds of all kinds, from points around them.
func TestAround(t *testing.T) {
	t.Parallel()
	by := dice(2)
	blind, seenFrom, others := 0, 0, 0
	for _, h := range rounds() {
		for _, q := range around(h, by) {
			if _, _, seenAny := checkSeen(t, h, q); !seenAny {
				others++
				continue
			}
			seenFrom++
			for i, p := range h {
				if _, sure := filter.Turn(q, p, h[(i+1)%len(h)]); !sure && len(h) > 2 {
					blind++
					break
				}
			}
		}
	}
	if seenFrom < 20000 || others < 4000 || blind < 6000 {
		t.Errorf("from %d, not from %d, from %d floats aren't sure", seenFrom, others, blind)
	}
}

// In one line with each two corners, on either end of it, near and far: where the
// line is one of the round, the farther one of both is told.
func TestInLine(t *testing.T) {
	t.Parallel()
	before, behind := [12]int{}, [12]int{}
	inLines(func(h []api.Point, i, k int) {
		for _, far := range []float64{1, 2, 0.5, 0x1p-30, 0x1p40} {
			q := inLine(h[i], h[k], 1+far)
			right, left, _ := checkSeen(t, h, q)
			switch {
			case k == (i+1)%len(h) && i != k:
				// Behind the line's end: its beginning lies farther.
				behind[i]++
				if left != i {
					t.Errorf("P14.1: Left of %s from %s: %d, not %d", seen(h...), seen(q), left, i)
				}
			case i == (k+1)%len(h) && i != k:
				before[k]++
				if right != i {
					t.Errorf("P14.1: Right of %s from %s: %d, not %d", seen(h...), seen(q), right, i)
				}
			}
		}
	})
	for i := range 10 {
		if before[i] < 40 || behind[i] < 40 {
			t.Errorf("line %d: %d times before, %d times behind", i, before[i], behind[i])
		}
	}
}

// caps: rounds of n corners in all views, all but one of their lines short; the
// long one at each place. Beside each a point from which just that line is
// seen, and one from which just that one isn't.
func caps(n int, do func(h []api.Point, one, allButOne api.Point)) {
	for from := 1 - n; from <= 0; from++ {
		h := bowl(n, from)
		first, last := float64(from), float64(from+n-1)
		mid := (first + last) / 2
		one := at(mid, (first*first+last*last)/2+0.5)
		low := at(mid, mid*mid-float64(n*n))
		for _, view := range views() {
			do(seenFrom(h, view), view(one), view(low))
		}
	}
}

// From one point a line alone is seen, whichever place it has; from another one
// all but that.
func TestOneAndAllButOne(t *testing.T) {
	t.Parallel()
	for n := 3; n < 40; n += 1 + n/6 {
		rights, lefts := make([]int, n), make([]int, n)
		caps(n, func(h []api.Point, one, allButOne api.Point) {
			for q, many := range map[api.Point]int{one: 1, allButOne: n - 1} {
				if without, in := sightOf(h, q).lines(); without != many || in != 0 {
					t.Errorf("%s, from %s: %d and %d lines, not %d", seen(h...), seen(q), without, in, many)
				}
				right, left, _ := checkSeen(t, h, q)
				rights[right]++
				lefts[left]++
			}
		})
		if slices.Contains(rights, 0) || slices.Contains(lefts, 0) {
			t.Errorf("of %d: never told is one of %v, %v", n, rights, lefts)
		}
	}
}

// Some hundreds, and a few thousands: from all around each corner is told, the
// first one, the last one, the least and the greatest.
func TestHundreds(t *testing.T) {
	t.Parallel()
	by := dice(3)
	for _, h := range [][]api.Point{wheel(100), wheel(257), times(wheel(300), 0x1p-500), bowl(200, -60), times(bowl(333, -333), 0x1p900)} {
		rights, lefts := map[int]bool{}, map[int]bool{}
		told := func(q api.Point) {
			if right, left, seenAny := checkSeen(t, h, q); seenAny {
				rights[right], lefts[left] = true, true
			}
		}
		for i, p := range h {
			// Just beside the middle of a line it alone is seen.
			next := h[(i+1)%len(h)]
			onX, onY := floatX(next)-floatX(p), floatY(next)-floatY(p)
			told(at(floatX(p)+onX/2+onY*0x1p-20, floatY(p)+onY/2-onX*0x1p-20))
		}
		for _, q := range around(h, by)[:300] {
			told(q)
		}
		if len(rights) != len(h) || len(lefts) != len(h) {
			t.Errorf("%d and %d are told of %d", len(rights), len(lefts), len(h))
		}
	}
	for _, h := range [][]api.Point{wheel(5000), bowl(4600, -2300)} {
		for _, q := range round(5000, 0, -5000, 1, 7, 3e7, 0, -9e9, greatest, greatest, -least, -greatest, 2000, 2000) {
			checkSeen(t, h, q)
		}
	}
}

// Points in a border's line, in the midst or on either end, and one float
// beside it, of each size: floats aren't sure.
func TestBesideLine(t *testing.T) {
	t.Parallel()
	for _, c := range borders() {
		for i, q := range []api.Point{c.mid, c.before, c.behind} {
			without, within := beside(q)
			for _, view := range views() {
				for _, q := range []api.Point{q, without, within} {
					checkSeen(t, seenFrom(c.h, view), view(q))
					checkSeen(t, seenFrom(c.h[:2], view), view(q))
				}
			}
			switch i {
			case 0:
				wantUnseen(t, c.h, q, api.NoTangent)
				wantUnseen(t, c.h, within, api.NoTangent)
				wantCorners(t, c.h, without, 1, 0)
			case 1:
				wantCorners(t, c.h, q, 1, 2)
				wantCorners(t, c.h, within, 0, 2)
				wantCorners(t, c.h, without, 1, 2)
			default:
				wantCorners(t, c.h, q, 2, 0)
				wantCorners(t, c.h, within, 2, 1)
				wantCorners(t, c.h, without, 2, 0)
			}
		}
	}
}

// q with a 0 below 0 sees what it sees with 0, and a corner that it is but for
// that holds it.
func TestNoughtBelow(t *testing.T) {
	t.Parallel()
	for _, h := range rounds() {
		for _, q := range append(round(0, 0, 0, -9, 0, 17, 0, greatest, -3, 0, 25, 0, greatest, 0, 0, least, -least, 0), h...) {
			if !held(h, q) {
				right, left, _ := checkSeen(t, h, q)
				for _, q := range below(q) {
					wantCorners(t, h, q, right, left)
				}
				continue
			}
			for _, q := range below(q) {
				wantUnseen(t, h, q, api.NoTangent)
			}
		}
	}
}

// Within, on a border, at a corner: no corner is told, of any round.
func TestNoTangent(t *testing.T) {
	t.Parallel()
	square, slant := round(0, 0, 2, 0, 2, 2, 0, 2), round(-3, -1, 6, 2, 0, 9)
	for _, c := range []struct {
		h []api.Point
		q api.Point
	}{
		{square, at(1, 1)}, {square, at(least, least)}, {square, at(under(2), under(2))}, {square, at(2, 1)}, {square, at(1, 0)}, {square, at(1, noughtBelow)}, {square, at(noughtBelow, 1)}, {square, at(1, 2)}, {square, at(0, 0)}, {square, at(noughtBelow, noughtBelow)}, {square, at(2, 0)}, {square, at(2, noughtBelow)}, {square, at(2, 2)}, {square, at(noughtBelow, 2)},
		{slant, at(3, 1)}, {slant, at(0, 0)}, {slant, at(1, 3)}, {slant, at(noughtBelow, 9)}, {slant, at(-1, 5)},
		{round(3, 4), at(3, 4)}, {round(0, 0), at(noughtBelow, 0)}, {round(0, 4), at(noughtBelow, 4)}, {round(4, 0), at(4, noughtBelow)},
		{round(0, 0, 2, 0), at(1, 0)}, {round(0, 0, 2, 0), at(1, noughtBelow)}, {round(0, 0, 2, 0), at(0, noughtBelow)}, {round(0, 0, 2, 0), at(2, 0)}, {round(0, -1, 0, 1), at(noughtBelow, 0)}, {round(-3, -1, 6, 2), at(3, 1)}, {round(-3, -1, 6, 2), at(0, noughtBelow)}, {round(-greatest, -greatest, greatest, greatest), at(least, least)},
	} {
		wantUnseen(t, c.h, c.q, api.NoTangent)
	}
	for _, h := range append(rounds(), wheel(300), bowl(300, -9)) {
		for _, q := range h {
			wantUnseen(t, h, q, api.NoTangent)
		}
	}
}

// A round without points shows nothing.
func TestEmptyHull(t *testing.T) {
	t.Parallel()
	for _, q := range round(0, 0, noughtBelow, noughtBelow, 1, -5, greatest, least) {
		wantUnseen(t, nil, q, api.EmptyHull)
		wantUnseen(t, []api.Point{}, q, api.EmptyHull)
		wantUnseen(t, round(1, 1, 2, 2)[:0], q, api.EmptyHull)
	}
}

// Codes are told as they are, and at no place but where the document says so.
func TestCodes(t *testing.T) {
	t.Parallel()
	for _, s := range sides() {
		for _, c := range []struct {
			h    []api.Point
			q    api.Point
			want api.Code
		}{{nil, at(1, 1), api.EmptyHull}, {round(2, 2, 1, 1), at(5, 0), api.Below}, {round(1, 1), at(1, 1), api.NoTangent}} {
			_, e := s.ask(c.h, c.q)
			var f *api.Fault
			var code api.Code
			if !errors.As(e, &code) || code != c.want || errors.As(e, &f) {
				t.Errorf("P14.1: %s of %s from %s: %v", s.name, seen(c.h...), seen(c.q), e)
			}
		}
	}
}
