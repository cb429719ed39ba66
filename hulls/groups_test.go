package hulls_test

import (
	"errors"
	"fmt"
	"math"
	"math/rand/v2"
	"slices"
	"testing"

	"outrigger/api"
	"outrigger/chain"
	"outrigger/filter"
	"outrigger/groups"
	"outrigger/shape"
)

// seenAll: the coordinates of some lists, for a remark.
func seenAll(lists [][]api.Point) string {
	text := fmt.Sprintf("%d: ", len(lists))
	for _, l := range lists[:min(len(lists), 6)] {
		text += "[" + seen(l...) + "] "
	}
	return text
}

// alike: are two rows of lists the same, list by list, bit by bit?
func alike(a, b [][]api.Point) bool {
	return slices.EqualFunc(a, b, func(a, b []api.Point) bool { return slices.Equal(a, b) })
}

// copied: the lists, in memory of their own.
func copied(lists [][]api.Point) (list [][]api.Point) {
	for _, l := range lists {
		list = append(list, slices.Clone(l))
	}
	return list
}

// groupsOf: the hulls of each m that follow each other, of the points each
// once, by the words; hull tells that of a few.
func groupsOf(l []api.Point, m int, hull func(l []api.Point) []api.Point) (hulls [][]api.Point) {
	var group []api.Point
	for _, p := range onceOf(l) {
		if len(group) == m {
			hulls, group = append(hulls, hull(group)), nil
		}
		group = append(group, p)
	}
	if len(group) > 0 {
		hulls = append(hulls, hull(group))
	}
	return hulls
}

// wantGroups holds what Groups answers against what is wanted.
func wantGroups(t *testing.T, l []api.Point, m int, want [][]api.Point) {
	t.Helper()
	if g, e := groups.Groups(l, m); e != nil || !alike(g, want) {
		t.Errorf("P15.1: Groups of %s by %d: %s %v, not %s", seen(l...), m, seenAll(g), e, seenAll(want))
	}
}

// wantWrap holds what Wrap answers against what is wanted: all of it, if it may
// have so many points, or more, and else nothing.
func wantWrap(t *testing.T, rounds [][]api.Point, want []api.Point) {
	t.Helper()
	n := len(want)
	for _, most := range []int{n, n + 1, 2*n + 5, math.MaxInt} {
		if h, enough, e := groups.Wrap(rounds, most); e != nil || !enough || !slices.Equal(h, want) {
			t.Errorf("P15.2: Wrap of %s, %d: %s %v %v, not %s", seenAll(rounds), most, seen(h...), enough, e, seen(want...))
		}
	}
	for _, most := range []int{n - 1, n / 2, 0, -1, -1000, math.MinInt} {
		if h, enough, e := groups.Wrap(rounds, most); most < n && (e != nil || enough || len(h) != 0) {
			t.Errorf("P15.2: Wrap of %s, %d: %s %v %v", seenAll(rounds), most, seen(h...), enough, e)
		}
	}
}

// inAnyOrder: the lists, in another order.
func inAnyOrder(lists [][]api.Point, by *rand.Rand) [][]api.Point {
	lists = slices.Clone(lists)
	by.Shuffle(len(lists), func(i, k int) { lists[i], lists[k] = lists[k], lists[i] })
	return lists
}

// checkWrap: the rounds as they come, the other way round, in any order, twice,
// with such as have no points, and with the hull of all among them: always that.
func checkWrap(t *testing.T, rounds [][]api.Point, want []api.Point, by *rand.Rand) {
	t.Helper()
	backward := slices.Clone(rounds)
	slices.Reverse(backward)
	for _, rounds := range [][][]api.Point{
		rounds, backward, inAnyOrder(rounds, by), inAnyOrder(slices.Concat(rounds, rounds), by),
		slices.Concat([][]api.Point{nil}, rounds), slices.Concat(rounds, [][]api.Point{{}}), inAnyOrder(slices.Concat(rounds, [][]api.Point{nil, {}, nil}), by),
		slices.Concat([][]api.Point{want}, rounds), slices.Concat(rounds, [][]api.Point{want}), {want}, {want, want},
	} {
		wantWrap(t, rounds, want)
	}
	for i := range min(len(want), 6) {
		// Points of the hull, each alone, and each segment of it.
		wantWrap(t, slices.Concat(rounds, [][]api.Point{want[i : i+1]}), want)
		wantWrap(t, slices.Concat([][]api.Point{onceOf([]api.Point{want[i], want[(i+1)%len(want)]})}, rounds), want)
	}
}

// rightAll: are all of them right, by the words?
func rightAll(rounds [][]api.Point) bool {
	return !slices.ContainsFunc(rounds, func(h []api.Point) bool { return !rightOf(h) })
}

// What the document gives, and each edge of Groups that it names, written out.
func TestGroups(t *testing.T) {
	t.Parallel()
	square := points(0, 0, 2, 0, 2, 2, 0, 2)
	level := points(4, 0, 2, 0, 0, noughtBelow, 1, 0, 3, 0)
	for _, c := range []struct {
		l    []api.Point
		m    int
		want [][]api.Point
	}{
		{square, 2, [][]api.Point{points(0, 0, 0, 2), points(2, 0, 2, 2)}},
		// None; one.
		{nil, 1, nil}, {[]api.Point{}, 7, nil}, {nil, math.MaxInt, nil}, {points(3, 4), 1, [][]api.Point{points(3, 4)}}, {points(noughtBelow, noughtBelow), 9, [][]api.Point{points(0, 0)}}, {points(3, 4), math.MaxInt, [][]api.Point{points(3, 4)}},
		// m of 1, that leaves one, and all but one; just their number, more, and the greatest.
		{square, 1, [][]api.Point{points(0, 0), points(0, 2), points(2, 0), points(2, 2)}}, {square, 3, [][]api.Point{points(0, 0, 2, 0, 0, 2), points(2, 2)}}, {square, 4, [][]api.Point{square}}, {square, 5, [][]api.Point{square}}, {square, math.MaxInt, [][]api.Point{square}}, {square, math.MaxInt - 1, [][]api.Point{square}},
		{append(points(1, 1), square...), 3, [][]api.Point{points(0, 0, 1, 1, 0, 2), points(2, 0, 2, 2)}}, {append(points(1, 1), square...), 4, [][]api.Point{points(0, 0, 2, 0, 0, 2), points(2, 2)}}, {append(points(1, 1), square...), 5, [][]api.Point{square}}, {append(points(1, 1, 1, -1), square...), 5, [][]api.Point{points(0, 0, 1, -1, 2, 0, 0, 2), points(2, 2)}},
		// Alike many times, or but for a 0 below 0.
		{slices.Repeat(square, 3), 2, [][]api.Point{points(0, 0, 0, 2), points(2, 0, 2, 2)}}, {append(allBelow(square), square...), 3, [][]api.Point{points(0, 0, 2, 0, 0, 2), points(2, 2)}}, {points(5, 5, 5, 5, 5, 5), 1, [][]api.Point{points(5, 5)}}, {points(5, 5, 5, 5, 5, 5), 2, [][]api.Point{points(5, 5)}}, {points(0, noughtBelow, noughtBelow, 0, 0, 0), 1, [][]api.Point{points(0, 0)}}, {points(1, 0, 1, noughtBelow, 0, 1, noughtBelow, 1), 1, [][]api.Point{points(0, 1), points(1, 0)}}, {points(1, 0, 1, noughtBelow, 0, 1, noughtBelow, 1), 3, [][]api.Point{points(0, 1, 1, 0)}},
		// In one line.
		{level, 2, [][]api.Point{points(0, 0, 1, 0), points(2, 0, 3, 0), points(4, 0)}}, {level, 3, [][]api.Point{points(0, 0, 2, 0), points(3, 0, 4, 0)}}, {level, 4, [][]api.Point{points(0, 0, 3, 0), points(4, 0)}}, {level, 5, [][]api.Point{points(0, 0, 4, 0)}}, {points(1, 5, 1, -1, 1, 2, 1, 4), 3, [][]api.Point{points(1, -1, 1, 4), points(1, 5)}}, {points(3, 1, -3, -1, 0, noughtBelow, 6, 2), 3, [][]api.Point{points(-3, -1, 3, 1), points(6, 2)}},
		{points(greatest, 0, -greatest, 0, 0, least, 0, -least, 0, 0), 3, [][]api.Point{points(-greatest, 0, 0, -least, 0, 0), points(0, least, greatest, 0)}},
	} {
		if words := groupsOf(c.l, c.m, hullOf); !alike(words, c.want) {
			t.Errorf("%s by %d: the words tell %s, not %s", seen(c.l...), c.m, seenAll(words), seenAll(c.want))
		}
		wantGroups(t, c.l, c.m, c.want)
		wantGroups(t, back(c.l), c.m, c.want)
	}
}

// Lists of none to some hundreds, of all kinds, in any order, by m from 1 to
// beyond their number; and the groups wrapped are the hull.
func TestGroupsByChance(t *testing.T) {
	t.Parallel()
	by := dice(31)
	uneven := 0
	check := func(l []api.Point, m int, hull func(l []api.Point) []api.Point) {
		want := groupsOf(l, m, hull)
		if n := len(onceOf(l)); n%m > 0 && n > m {
			uneven++
		}
		for _, l := range [][]api.Point{l, shuffled(append(slices.Clone(l), l...), by), signed(back(l), by), onceOf(l)} {
			wantGroups(t, l, m, want)
		}
		wantWrap(t, want, hullBySides(l))
	}
	for n := range 120 {
		l := chance(n%31, n, by)
		for m := 1; m < len(l)+3; m += 1 + m/9 {
			check(l, m, hullOf)
		}
		if once := len(onceOf(l)); once > 1 {
			check(l, once, hullOf)
			check(l, once+1, hullOf)
			check(l, once-1, hullOf)
		}
	}
	for kind := range 10 {
		l := chance(120+30*kind, kind, by)
		for _, m := range []int{1, 2, 7, 20, 60, len(onceOf(l)), 1000} {
			check(l, m, hullBySides)
		}
	}
	if uneven < 300 {
		t.Errorf("%d times a last group had fewer", uneven)
	}
}

// An m that is none is told ahead of all else; beside it there is nothing.
func TestGroupsOfNone(t *testing.T) {
	t.Parallel()
	lists := append(badLists(), nil, []api.Point{}, points(1, 1), points(0, 0, 2, 0, 2, 2, 0, 2), bowl(300))
	for _, l := range lists {
		for _, m := range []int{0, -1, -2, -1000, math.MinInt + 1, math.MinInt} {
			g, e := groups.Groups(l, m)
			var c api.Code
			var f *api.Fault
			if len(g) != 0 || !errors.Is(e, api.Range) || !errors.As(e, &c) || c != api.Range || errors.As(e, &f) {
				t.Errorf("P15.1: Groups of %s by %d: %s %v", seen(l...), m, seenAll(g), e)
			}
		}
	}
}

// badLists: lists with points that aren't good, at the first place, the last one
// and between.
func badLists() (lists [][]api.Point) {
	for i, bad := range bads() {
		l := bowl(1 + i%5)
		l[i%len(l)] = bad
		lists = append(lists, l, []api.Point{bad})
	}
	return lists
}

// The first point that isn't good is told by its place in the list as it was
// handed in, not where it would be sorted, nor in its group.
func TestGroupsOfBadPoints(t *testing.T) {
	t.Parallel()
	wantPlace := func(l []api.Point, place int) {
		t.Helper()
		for _, m := range []int{1, 2, 3, len(l), len(l) + 1, math.MaxInt} {
			g, e := groups.Groups(l, m)
			var f *api.Fault
			if len(g) != 0 || !errors.As(e, &f) || f.At != place || !errors.Is(f.Err, api.BadPoint) || e.Error() != fmt.Sprintf("%d: E1", place) {
				t.Errorf("P15.1: Groups of %s by %d: %s %v, not at %d", seen(l...), m, seenAll(g), e, place)
			}
		}
	}
	for k, bad := range bads() {
		for _, n := range []int{1, 2, 3, 8, 50} {
			for place := 0; place < n; place += max(1, min(n/4, n-1-place)) {
				for _, l := range [][]api.Point{back(bowl(n)), turned(bowl(n), n/2), slices.Repeat(points(noughtBelow, 3), n)} {
					l[place] = bad
					wantPlace(l, place)
					l[n-1] = bads()[(k+place)%len(bads())]
					wantPlace(l, place)
				}
			}
		}
	}
	long := slices.Repeat(back(bowl(50)), 200)
	for _, place := range []int{9999, 4096, 51, 0} {
		long[place] = bads()[place%len(bads())]
		wantPlace(long, place)
	}
}

// Wrap of right rounds, written out: each edge that the document names.
func TestWrap(t *testing.T) {
	t.Parallel()
	by := dice(32)
	square, big, dot := points(0, 0, 2, 0, 2, 2, 0, 2), points(-5, -5, 7, -5, 7, 7, -5, 7), points(1, 1)
	all := func(rounds ...[]api.Point) [][]api.Point { return rounds }
	for _, c := range []struct {
		rounds [][]api.Point
		want   []api.Point
	}{
		// None, and groups without points.
		{nil, nil}, {all(nil), nil}, {all([]api.Point{}, nil, []api.Point{}), nil}, {all(nil, dot), dot}, {all(dot, nil), dot}, {all(nil, square, nil, square, nil), square}, {all(dot, nil, nil, square), square},
		// One point, alike; two; three, in a line and aside.
		{all(dot), dot}, {all(dot, dot, dot), dot}, {all(points(0, 0), points(0, 0)), points(0, 0)}, {all(points(3, 1), points(1, 2)), points(1, 2, 3, 1)}, {all(points(1, 5), points(1, -5)), points(1, -5, 1, 5)}, {all(points(1, -5), points(1, -5), points(1, 5)), points(1, -5, 1, 5)},
		{all(points(2, 2), points(0, 0), points(1, 1)), points(0, 0, 2, 2)}, {all(points(0, 2), points(0, 1), points(0, 0), points(0, 1)), points(0, 0, 0, 2)}, {all(points(0, 1), points(1, 0), points(0, 0)), points(0, 0, 1, 0, 0, 1)}, {all(points(0, 0), points(1, 1), points(0.5, 0.5+0x1p-53)), points(0, 0, 1, 1, 0.5, 0.5+0x1p-53)}, {all(points(0, 0), points(1, 1), points(0.5, 0.5)), points(0, 0, 1, 1)},
		// A segment: and a point of its line, and another segment of it.
		{all(points(0, 0, 2, 0), points(1, 0)), points(0, 0, 2, 0)}, {all(points(0, 0, 2, 0), points(0, 0)), points(0, 0, 2, 0)}, {all(points(0, 0, 2, 0), points(2, 0)), points(0, 0, 2, 0)}, {all(points(0, 0, 2, 0), points(5, 0)), points(0, 0, 5, 0)}, {all(points(0, 0, 2, 0), points(-5, 0)), points(-5, 0, 2, 0)}, {all(points(0, 0, 2, 0), points(1, 1)), points(0, 0, 2, 0, 1, 1)}, {all(points(0, 0, 2, 0), points(1, -least)), points(0, 0, 1, -least, 2, 0)},
		{all(points(0, 0, 2, 2), points(1, 1, 3, 3)), points(0, 0, 3, 3)}, {all(points(0, 0, 2, 2), points(2, 2, 3, 3)), points(0, 0, 3, 3)}, {all(points(0, 0, 2, 2), points(3, 3, 4, 4)), points(0, 0, 4, 4)}, {all(points(0, 0, 9, 9), points(3, 3, 4, 4)), points(0, 0, 9, 9)}, {all(points(0, 0, 2, 2), points(0, 0, 2, 2)), points(0, 0, 2, 2)}, {all(points(0, 0, 2, 2), points(0, 0, 3, 3)), points(0, 0, 3, 3)}, {all(points(1, -4, 1, 0), points(1, -1, 1, 3), points(1, 2)), points(1, -4, 1, 3)}, {all(points(-6, -2, 0, 0), points(-3, -1, 6, 2), points(3, 1, 9, 3)), points(-6, -2, 9, 3)},
		// Segments that cross, that touch, that lie apart and along each other.
		{all(points(-1, 0, 1, 0), points(0, -1, 0, 1)), points(-1, 0, 0, -1, 1, 0, 0, 1)}, {all(points(0, 0, 2, 0), points(0, 0, 0, 2)), points(0, 0, 2, 0, 0, 2)}, {all(points(0, 0, 2, 0), points(1, 0, 1, 5)), points(0, 0, 2, 0, 1, 5)}, {all(points(0, 0, 2, 0), points(0, 2, 2, 2)), square}, {all(points(0, 0, 2, 2), points(0, 2, 2, 0)), square}, {all(points(0, 0, 2, 0), points(5, 1, 9, 7)), points(0, 0, 2, 0, 5, 1, 9, 7)},
		// A square: and others within, on a border, at a corner, without.
		{all(square, dot), square}, {all(square, points(2, 1)), square}, {all(square, points(0, 0), points(2, 2)), square}, {all(square, points(over(2), 1)), points(0, 0, 2, 0, over(2), 1, 2, 2, 0, 2)}, {all(square, points(under(2), 1)), square}, {all(square, points(9, 9)), points(0, 0, 2, 0, 9, 9, 0, 2)}, {all(square, points(-1, -1)), points(-1, -1, 2, 0, 2, 2, 0, 2)}, {all(square, points(3, 0)), points(0, 0, 3, 0, 2, 2, 0, 2)}, {all(square, points(0, -3)), points(0, -3, 2, 0, 2, 2, 0, 2)}, {all(square, points(0, 0, 2, 0)), square}, {all(square, points(0.5, 0, 1, 0)), square}, {all(square, points(1, 0, 9, 0)), points(0, 0, 9, 0, 2, 2, 0, 2)},
		// Squares: alike, one within the other, with a border in common, apart, that overlap, that touch.
		{all(square, square), square}, {all(square, big), big}, {all(points(0, 0, 4, 0, 4, 4, 0, 4), square), points(0, 0, 4, 0, 4, 4, 0, 4)}, {all(square, points(0, 0, 2, 0, 2, 5, 0, 5)), points(0, 0, 2, 0, 2, 5, 0, 5)}, {all(square, points(2, 0, 4, 0, 4, 2, 2, 2)), points(0, 0, 4, 0, 4, 2, 0, 2)}, {all(square, points(2, 1, 4, 1, 4, 3, 2, 3)), points(0, 0, 2, 0, 4, 1, 4, 3, 2, 3, 0, 2)}, {all(square, points(2, 2, 4, 2, 4, 4, 2, 4)), points(0, 0, 2, 0, 4, 2, 4, 4, 2, 4, 0, 2)}, {all(square, points(1, 1, 3, 1, 3, 3, 1, 3)), points(0, 0, 2, 0, 3, 1, 3, 3, 1, 3, 0, 2)}, {all(square, points(5, 0, 7, 0, 7, 2, 5, 2)), points(0, 0, 7, 0, 7, 2, 0, 2)}, {all(square, points(0, 5, 2, 5, 2, 7, 0, 7)), points(0, 0, 2, 0, 2, 7, 0, 7)}, {all(square, points(5, 5, 7, 5, 7, 7, 5, 7)), points(0, 0, 2, 0, 7, 5, 7, 7, 5, 7, 0, 2)},
		{all(square, points(3, 0, 4, 0, 4, 1, 3, 1), points(5, 0, 9, 0, 9, 2, 5, 2)), points(0, 0, 9, 0, 9, 2, 0, 2)}, {all(points(-1, 1, 1, -1, 3, 1, 1, 3), square), points(-1, 1, 1, -1, 3, 1, 1, 3)}, {all(points(-1, 1, 1, -1, 3, 1, 1, 3), points(-9, 1, 9, 1)), points(-9, 1, 1, -1, 9, 1, 1, 3)},
		// Corners of several in one line: with ends before, behind, and both.
		{all(points(0, 0, 1, 0, 0, 1), points(2, 0, 3, 0, 3, 1), points(4, 0, 5, 0, 5, 1)), points(0, 0, 5, 0, 5, 1, 0, 1)}, {all(points(0, 0, 3, 1, 0, 9), points(3, 1, 6, 2, 4, 4), points(9, 3)), points(0, 0, 9, 3, 0, 9)}, {all(points(0, 0, 0, 1), points(0, 3, 1, 3), points(0, 2, 1, 2), points(0, 5)), points(0, 0, 1, 2, 1, 3, 0, 5)},
		// The greatest and the least floats.
		{all(points(-greatest, -greatest, greatest, greatest), points(-greatest, greatest, greatest, -greatest), points(0, 0)), points(-greatest, -greatest, greatest, -greatest, greatest, greatest, -greatest, greatest)}, {all(points(0, 0, least, least), points(0, least, least, 0)), points(0, 0, least, 0, least, least, 0, least)}, {all(points(-greatest, 0, greatest, 0), points(0, -least), points(0, least), points(0, 0)), points(-greatest, 0, 0, -least, greatest, 0, 0, least)}, {all(points(0, 0, greatest, least), points(greatest, 2*least), points(greatest/2, least)), points(0, 0, greatest, least, greatest, 2*least)}, {all(points(0, 0), points(greatest, 0), points(least, 0), points(1, 0, 1, least)), points(0, 0, greatest, 0, 1, least)}, {all(points(-greatest, 0), points(greatest, 0), points(0, least), points(1, 0)), points(-greatest, 0, greatest, 0, 0, least)},
	} {
		if words := hullOf(slices.Concat(c.rounds...)); !slices.Equal(words, c.want) || !rightAll(c.rounds) {
			t.Errorf("%s: the words tell %s, not %s", seenAll(c.rounds), seen(words...), seen(c.want...))
		}
		checkWrap(t, c.rounds, c.want, by)
		for _, view := range append(views(), mirrored) {
			var rounds [][]api.Point
			for _, h := range c.rounds {
				rounds = append(rounds, hullOf(seenFrom(h, view)))
			}
			wantWrap(t, rounds, hullOf(seenFrom(c.want, view)))
		}
	}
}

// gridHulls: of each set of points of a grid of three by three the hull.
func gridHulls() (hulls [][]api.Point) {
	for _, l := range gridSets() {
		hulls = append(hulls, hullOf(l))
	}
	return hulls
}

// Each two hulls of points of a small grid: all ways that few corners of two
// rounds can lie to each other.
func TestWrapGrid(t *testing.T) {
	t.Parallel()
	hulls := gridHulls()
	maskOf := func(h []api.Point) (mask int) {
		for _, p := range h {
			mask |= 1 << int(3*(floatX(p)+1)+floatY(p)+1)
		}
		return mask
	}
	pairs := 0
	for a, one := range hulls {
		for b, other := range hulls {
			// Those that are all corners are hulls; the others are hulls of fewer.
			if maskOf(one) != a || maskOf(other) != b {
				continue
			}
			want := hulls[a|b]
			h, enough, e := groups.Wrap([][]api.Point{one, other}, len(want))
			less, more, e2 := groups.Wrap([][]api.Point{one, other}, len(want)-1)
			if e != nil || !enough || !slices.Equal(h, want) || e2 != nil || more || len(less) != 0 {
				t.Errorf("P15.2: Wrap of %s and %s: %s %v %v, not %s", seen(one...), seen(other...), seen(h...), enough, e, seen(want...))
			}
			pairs++
		}
	}
	if pairs < 20000 {
		t.Errorf("%d pairs", pairs)
	}
	by := dice(33)
	for range 3000 {
		var rounds [][]api.Point
		mask := 0
		for range 1 + by.IntN(5) {
			group := by.IntN(1<<9) & by.IntN(1<<9)
			rounds, mask = append(rounds, hulls[group]), mask|group
		}
		wantWrap(t, rounds, hulls[mask])
	}
}

// parted: the points, each in one of n groups, or in several; their hulls.
func parted(l []api.Point, n int, by *rand.Rand) (rounds [][]api.Point) {
	lists := make([][]api.Point, n)
	for _, p := range l {
		for again := true; again; again = by.IntN(5) == 0 {
			at := by.IntN(n)
			lists[at] = append(lists[at], p)
		}
	}
	for _, l := range lists {
		rounds = append(rounds, hullBySides(l))
	}
	return rounds
}

// Groups by chance, of points of all kinds, that lie through one another, or
// beside one another: the hull of all, by the words.
func TestWrapChance(t *testing.T) {
	t.Parallel()
	by := dice(34)
	flat, lost := 0, 0
	for n := range 500 {
		l := chance(1+n%40, n, by)
		want := hullOf(l)
		rounds := parted(l, 1+by.IntN(8), by)
		corners := len(slices.Concat(rounds...))
		lost += corners - len(want)
		if len(want) < 3 {
			flat++
		}
		wantWrap(t, rounds, want)
		if n%4 == 0 {
			checkWrap(t, rounds, want, by)
		}
	}
	if lost < 3000 || flat < 20 {
		t.Errorf("%d corners of groups are no corners of all, %d hulls are flat", lost, flat)
	}
}

// Rounds that turn, wheels and bowls, of each size, moved to lie apart, one
// within the other, overlapping, touching: by sides.
func TestWrapRounds(t *testing.T) {
	t.Parallel()
	by := dice(35)
	moved := func(h []api.Point, x, y float64) []api.Point {
		return seenFrom(h, func(p api.Point) api.Point { return normOf(at(floatX(p)+x, floatY(p)+y)) })
	}
	for n := range 60 {
		var rounds [][]api.Point
		for range 2 + n%5 {
			h := [][]api.Point{coarse(wheel(3 + by.IntN(30))), bowl(1 + by.IntN(25)), roundIn(bowl(3+by.IntN(25)), mirrored)}[by.IntN(3)]
			far := float64(by.IntN(4) * 500)
			h = moved(h, math.Round(far*(by.Float64()-0.5)), math.Round(far*(by.Float64()-0.5)))
			rounds = append(rounds, hullBySides(h))
		}
		for _, size := range []float64{1, 0x1p-540, 0x1p990} {
			var list [][]api.Point
			for _, h := range rounds {
				list = append(list, times(h, size))
			}
			checkWrap(t, list, hullBySides(slices.Concat(list...)), by)
		}
	}
	for _, h := range [][]api.Point{wheel(60), coarse(wheel(200)), bowl(150), times(bowl(120), 4*least), times(wheel(90), 0x1p1000)} {
		// Each third corner in a round of its own, and each run of them.
		third := make([][]api.Point, 3)
		for i, p := range h {
			third[i%3] = append(third[i%3], p)
		}
		for i := range third {
			third[i] = hullBySides(third[i])
		}
		checkWrap(t, third, h, by)
		for _, run := range []int{1, 2, 7, len(h) - 1} {
			var runs [][]api.Point
			for l := range slices.Chunk(turned(h, len(h)/3), run) {
				runs = append(runs, hullBySides(l))
			}
			wantWrap(t, runs, h)
			wantWrap(t, append(runs, times(third[1], 0.5)), hullBySides(append(slices.Clone(h), times(third[1], 0.5)...)))
		}
	}
}

// Many points in a line that the hull has, in many groups, or one float beside
// it: floats aren't sure which way they turn.
func TestWrapInLine(t *testing.T) {
	t.Parallel()
	by := dice(36)
	blind, more := 0, 0
	for n := range 200 {
		x, y := float64(by.IntN(7)-3), float64(1+by.IntN(6))
		l := row(float64(by.IntN(9)), float64(by.IntN(9)), x, y, 4+n%30)
		ends := hullOf([]api.Point{l[0], l[len(l)-1]})
		aside := at(floatX(l[0])+100*y, floatY(l[0])-100*x)
		for _, size := range []float64{1, 0x1p-1060, 0x1p1000} {
			line := times(l, size)
			checkWrap(t, parted(line, 1+n%6, by), hullOf(times(ends, size)), by)
			third := times([]api.Point{aside}, size)
			wantWrap(t, append(parted(line, 1+n%6, by), third), hullOf(append(third, times(ends, size)...)))
			near := slices.Clone(line)
			for range 1 + n%3 {
				i := by.IntN(len(near))
				p := near[i]
				near[i] = normOf([]api.Point{at(over(floatX(p)), floatY(p)), at(floatX(p), under(floatY(p)))}[by.IntN(2)])
				if _, sure := filter.Turn(near[0], near[len(near)-1], near[i]); !sure {
					blind++
				}
			}
			want := hullBySides(append(near, third...))
			if len(want) > 3 {
				more++
			}
			wantWrap(t, append(parted(near, 1+n%6, by), third), want)
			wantWrap(t, parted(near, 1+n%6, by), hullBySides(near))
		}
	}
	if blind < 500 || more < 200 {
		t.Errorf("floats aren't sure of %d, %d have more corners", blind, more)
	}
}

// Hundreds of groups, handed in in any order, of points each for itself, of
// few, and of many; of those at a corner, and in one line, too.
func TestWrapHundreds(t *testing.T) {
	t.Parallel()
	by := dice(37)
	for kind := range 10 {
		l := chance(500, kind, by)
		want := hullBySides(l)
		for _, n := range []int{2, 30, 200, 450} {
			wantWrap(t, inAnyOrder(parted(l, n, by), by), want)
		}
	}
	round := coarse(wheel(120))
	var rounds [][]api.Point
	for i, p := range round {
		q := round[by.IntN(len(round))]
		rounds = append(rounds, round[i:i+1], onceOf([]api.Point{p, q}), onceOf([]api.Point{middle(p, q)}), hullBySides([]api.Point{p, q, middle(p, round[(i+1)%120])}), nil)
	}
	wantWrap(t, inAnyOrder(rounds, by), round)
	var line [][]api.Point
	for i := range 300 {
		line = append(line, points(float64(i)*3, float64(i), float64(i+5)*3, float64(i+5)), points(float64(i)*3, float64(i)))
	}
	wantWrap(t, inAnyOrder(line, by), points(0, 0, 304*3, 304))
	wantWrap(t, slices.Repeat([][]api.Point{points(7, 7)}, 500), points(7, 7))
	wantWrap(t, slices.Repeat([][]api.Point{bowl(30)}, 300), bowl(30))
}

// Lists of thousands: their groups, whatever m is, wrapped are the hull by two
// chains, bit by bit; and with each m there are as many groups as there should.
func TestGroupsWrapped(t *testing.T) {
	t.Parallel()
	by := dice(38)
	lists := [][]api.Point{bowl(4200), shuffled(slices.Repeat(bowl(1500), 2), by), coarse(wheel(3000)), row(-9000, -3000, 3, 1, 6000), doubling(-1000, 2000)}
	for kind := range 5 {
		lists = append(lists, chance(5000, kind, by))
	}
	for _, l := range lists {
		want, _ := chain.Hull(l)
		once := onceOf(l)
		for _, m := range []int{40, 500, 1024, len(once) - 1, len(once), len(once) + 1, math.MaxInt} {
			if m < 1 {
				continue
			}
			g, e := groups.Groups(shuffled(signed(l, by), by), m)
			if number := (len(once)-1)/m + 1; e != nil || len(g) != number {
				t.Errorf("P15.1: Groups of %s by %d: %d %v, not %d", seen(l...), m, len(g), e, number)
			}
			for i, h := range g {
				part := once[i*m : min((i+1)*min(m, len(once)), len(once))]
				if !shape.Right(h) || slices.ContainsFunc(h, func(p api.Point) bool { return !slices.Contains(part, p) }) {
					t.Errorf("P15.1: Groups of %s by %d: %s is no hull of those at %d", seen(l...), m, seen(h...), i)
				}
			}
			for _, most := range []int{len(want), math.MaxInt} {
				if h, enough, e := groups.Wrap(inAnyOrder(g, by), most); e != nil || !enough || !slices.Equal(h, want) {
					t.Errorf("P15.4: Groups of %s by %d, wrapped: %s %v %v, not %s", seen(l...), m, seen(h...), enough, e, seen(want...))
				}
			}
			if h, enough, e := groups.Wrap(g, len(want)-1); e != nil || enough || len(h) != 0 {
				t.Errorf("P15.2: Groups of %s by %d, wrapped, one less: %s %v %v", seen(l...), m, seen(h...), enough, e)
			}
		}
	}
}

// Hulls of just so many corners as a guess may be, one less, and one more, among
// few other points and many; and as many points as a guess, all corners or not.
func TestGuesses(t *testing.T) {
	t.Parallel()
	by := dice(39)
	for _, n := range []int{1, 2, 3, 4, 5, 6, 8, 15, 16, 17, 31, 64, 255, 256, 257, 400} {
		h := points(0, 0, 8, 0)[:min(n, 2)]
		if n > 2 {
			h = bowl(n)
		}
		for _, others := range []int{0, 1, 2, 3, 4, 11, 12, 13, 50, 252, 255, 256, 900} {
			l := slices.Clone(h)
			for range others {
				l = append(l, middle(middle(h[by.IntN(n)], h[by.IntN(n)]), h[by.IntN(n)]))
			}
			wantHull(t, shuffled(l, by), h)
			wantHull(t, times(shuffled(l, by), 0x1p-1060), times(h, 0x1p-1060))
		}
	}
	// More points than the fourth guess, the square of 256.
	h := bowl(300)
	l := slices.Clone(h)
	for len(onceOf(l)) <= 1<<16 {
		for range 1 << 15 {
			l = append(l, at(float64(by.IntN(1<<13)-1<<12)/64, 22700+float64(by.IntN(1<<12)-1<<11)/64))
		}
	}
	want, _ := chain.Hull(l)
	if got, e := groups.Hull(l); e != nil || !slices.Equal(got, want) || len(want) < 257 {
		t.Errorf("P15.3: Hull of %d points: %s %v, not %s", len(l), seen(got...), e, seen(want...))
	}
}

// wrongRounds: such as aren't right.
func wrongRounds() [][]api.Point {
	list := [][]api.Point{
		// From elsewhere; the other way round; both.
		points(2, 0, 2, 2, 0, 2, 0, 0), points(0, 2, 0, 0, 2, 0, 2, 2), points(1, 0, 0, 1, 0, 0), points(0, 0, 0, 2, 2, 0), points(0, 0, 0, 2, 2, 2, 2, 0), points(2, 0, 0, 0, 0, 2, 2, 2), points(1, 0, 0, 0), points(3, 3, 3, -3), points(over(1), 0, 1, 0),
		// Twice round; a corner twice, in a row and apart.
		slices.Repeat(points(0, 0, 2, 0, 2, 2, 0, 2), 2), slices.Repeat(points(0, 0, 1, 1), 2), slices.Repeat(bowl(7), 3), points(5, 5, 5, 5), points(0, 0, 0, 0, 2, 0, 2, 2), points(0, 0, 2, 0, 2, 2, 2, 2), points(0, 0, 2, 0, 2, 2, 0, 0), points(0, 0, 1, 1, 1, 1), points(0, 0, 2, 0, 0, 0, 2, 2),
		// One more on a border, at each; in one line; within; a star.
		points(0, 0, 1, 0, 2, 0, 2, 2, 0, 2), points(0, 0, 2, 0, 2, 1, 2, 2, 0, 2), points(0, 0, 2, 0, 2, 2, 1, 2, 0, 2), points(0, 0, 2, 0, 2, 2, 0, 2, 0, 1), points(0, 0, 1, 1, 2, 2), points(0, 0, 2, 2, 1, 1), points(0, 0, 0, 1, 0, 2), points(0, 0, 1, 0.25, 2, 0, 2, 2, 0, 2), points(0, 0, 2, 0, 2, 2, 0, 2, 1, 1), points(0, 0, 2, 2, 2, 0, 0, 2), points(-3, 0, 3, -2, 0, 4, -1, -4, 2, 3),
		// 0 below 0.
		points(noughtBelow, 3), points(3, noughtBelow), points(noughtBelow, noughtBelow), points(noughtBelow, 0, 2, 0, 2, 2, 0, 2), points(0, 0, 2, noughtBelow, 2, 2, 0, 2), points(0, 0, 2, 0, 2, 2, noughtBelow, 2), points(0, 0, 0, noughtBelow), points(-1, noughtBelow, 1, 0),
	}
	// Bits that are none, and infinite ones, alone, and at some place.
	return append(list, badLists()...)
}

// wantWrong: is that a fault of Below at the place, as the document says faults
// are, and nothing beside it, whatever most says?
func wantWrong(t *testing.T, rounds [][]api.Point, place int) {
	t.Helper()
	for _, most := range []int{math.MaxInt, 9, 4, 3, 1, 0, -1, math.MinInt} {
		h, enough, e := groups.Wrap(rounds, most)
		var f *api.Fault
		var c api.Code
		if len(h) != 0 || enough || !errors.As(e, &f) || f.At != place || !errors.Is(f.Err, api.Below) ||
			!errors.As(e, &c) || c != api.Below || !errors.Is(e, api.Below) || errors.Is(e, api.BadPoint) || e.Error() != fmt.Sprintf("%d: E8", place) {
			t.Errorf("P15.2: Wrap of %s, %d: %s %v %v, not a fault at %d", seenAll(rounds), most, seen(h...), enough, e, place)
		}
	}
}

// Rounds that aren't right, at the first place, at the last one, between, and at
// several: the first is told, by its place among all, such without points too.
func TestWrapNotRight(t *testing.T) {
	t.Parallel()
	by := dice(40)
	square := points(0, 0, 2, 0, 2, 2, 0, 2)
	for i, wrong := range wrongRounds() {
		if !slices.ContainsFunc(wrong, isBad) && rightOf(wrong) {
			t.Errorf("%s is a right round", seen(wrong...))
		}
		wantWrong(t, [][]api.Point{wrong}, 0)
		wantWrong(t, [][]api.Point{wrong, wrong}, 0)
		wantWrong(t, [][]api.Point{square, wrong}, 1)
		wantWrong(t, [][]api.Point{wrong, square}, 0)
		wantWrong(t, [][]api.Point{nil, nil, {}, wrong}, 3)
		wantWrong(t, [][]api.Point{points(-9, -9, 99, -9, 99, 99, -9, 99), wrong, nil}, 1)
		for range 4 {
			rounds := parted(chance(30, i, by), 6, by)
			one, two := by.IntN(6), by.IntN(6)
			rounds[one] = wrong
			wantWrong(t, rounds, one)
			rounds[two] = wrongRounds()[by.IntN(40)]
			wantWrong(t, rounds, min(one, two))
		}
	}
	many := slices.Repeat([][]api.Point{bowl(5), points(1, 1), nil}, 200)
	many[599] = back(square)
	wantWrong(t, many, 599)
	many[300] = points(1, 1, 0, 0)
	wantWrong(t, many, 300)
	_, _, e := groups.Wrap(many, 9)
	var f *api.Fault
	if errors.As(e, &f) {
		f.At, f.Err = 77, api.Range
	}
	wantWrong(t, many, 300)
}

// isBad: are bits none, or infinite?
func isBad(p api.Point) bool {
	return p.X&infinite == infinite || p.Y&infinite == infinite
}

// What is handed in stays as it was, the lists' order and their spare room, too,
// be it right or wrong.
func TestGroupsHandedIn(t *testing.T) {
	t.Parallel()
	by := dice(41)
	room := mixed(12, by)
	checkUnchanged(t, "P15.1", room, func(l []api.Point) {
		for _, m := range []int{-1, 1, 2, 5, 100} {
			groups.Groups(l, m)
		}
	})
	for n := range 60 {
		rounds := parted(chance(40, n, by), 5, by)
		for i, h := range rounds {
			rounds[i] = append(slices.Clip(h), points(-1e300, 1e300, noughtBelow, 2)...)[:len(h)]
		}
		rounds = append(rounds, wrongRounds()[n%50], nil, bowl(4), back(bowl(4)))
		before := full(rounds)
		for to := range len(rounds) + 1 {
			for _, most := range []int{-1, 0, 2, 5, 100} {
				groups.Wrap(rounds[:to], most)
			}
			if !alike(full(rounds), before) {
				t.Fatalf("P15.2: the first %d: handed in was %s, is now %s", to, seenAll(before), seenAll(full(rounds)))
			}
		}
	}
}

// full: the lists with their spare room, in memory of their own.
func full(lists [][]api.Point) (list [][]api.Point) {
	for _, l := range lists[:cap(lists)] {
		list = append(list, slices.Clone(l[:cap(l)]))
	}
	return list
}

// spoil changes a list, its spare room too.
func spoil(l []api.Point) {
	l = l[:cap(l)]
	for i := range l {
		l[i] = bads()[0]
	}
}

// What is answered has memory of its own: to change it, its spare room too,
// changes neither what was handed in, nor another answer, nor another list of it.
func TestGroupsOwnMemory(t *testing.T) {
	t.Parallel()
	by := dice(42)
	for n := range 60 {
		l := [][]api.Point{chance(n, n, by), bowl(n), slices.Repeat(points(1, 1), n), points(4, 4, 2, 2)[:n%3]}[n%4]
		for _, m := range []int{1, 2, 3, 7, 100} {
			before := slices.Clone(l)
			want, _ := groups.Groups(l, m)
			for i := range want {
				g, _ := groups.Groups(l, m)
				spoil(g[i])
				rest := slices.Delete(copied(want), i, i+1)
				if !slices.Equal(l, before) || !alike(slices.Delete(g, i, i+1), rest) {
					t.Errorf("P15.1: Groups of %s by %d: list %d shares memory", seen(before...), m, i)
				}
			}
			rounds := copied(want)
			h, _, _ := groups.Wrap(rounds, math.MaxInt)
			again, _, _ := groups.Wrap(rounds, math.MaxInt)
			kept := slices.Clone(again)
			spoil(h)
			if !alike(rounds, want) || !slices.Equal(again, kept) {
				t.Errorf("P15.2: Wrap of %s shares memory", seenAll(want))
			}
		}
	}
	for _, h := range [][]api.Point{points(1, 1), points(0, 0, 1, 1), bowl(9)} {
		rounds := [][]api.Point{nil, slices.Clone(h), nil}
		answer, _, _ := groups.Wrap(rounds, 9)
		spoil(answer)
		if len(answer) != len(h) || !slices.Equal(rounds[1], h) {
			t.Errorf("P15.2: Wrap of %s alone shares memory", seen(h...))
		}
	}
}
