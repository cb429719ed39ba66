package rounds_test

import (
	"math"
	"math/big"
	"slices"
	"testing"

	"outrigger/api"
	"outrigger/filter"
	"outrigger/wide"
)

// someOf: as many as go into a remark.
func someOf(pairs [][2]int) [][2]int { return pairs[:min(len(pairs), 20)] }

// wantPairs holds them against what is wanted.
func wantPairs(t *testing.T, h []api.Point, want [][2]int) {
	t.Helper()
	if pairs, e := wide.Pairs(h); e != nil || !slices.Equal(pairs, want) {
		t.Errorf("P17.1: Pairs of %s: %d %v %v, not %d %v", seen(h...), len(pairs), someOf(pairs), e, len(want), someOf(want))
	}
}

// checkPairs holds them, of a right round, against the words, pair by pair, and
// tells these.
func checkPairs(t *testing.T, h []api.Point) [][2]int {
	t.Helper()
	want := spreadOf(h).pairs()
	wantPairs(t, h, want)
	return want
}

// wantDiameter holds it against what is wanted.
func wantDiameter(t *testing.T, h []api.Point, want *big.Rat, wantI, wantJ int) {
	t.Helper()
	if far, i, j, e := wide.Diameter(h); e != nil || !isRatio(far, want) || i != wantI || j != wantJ {
		t.Errorf("P17.2: Diameter of %s: %v %d %d %v, not %d %d", seen(h...), far, i, j, e, wantI, wantJ)
	}
}

// checkDiameter holds it, of a right round, against the words, pair by pair,
// and tells all pairs that lie just as far apart.
func checkDiameter(t *testing.T, h []api.Point) [][2]int {
	t.Helper()
	far, places := farthestOf(h)
	first := [2]int{}
	if len(h) > 1 {
		first = places[0]
	}
	wantDiameter(t, h, far, first[0], first[1])
	return places
}

// allPairs: those of so many.
func allPairs(n int) (list [][2]int) {
	for i := range n {
		for j := i + 1; j < n; j++ {
			list = append(list, [2]int{i, j})
		}
	}
	return list
}

// What the document gives, and edges that it names, written out.
func TestPairs(t *testing.T) {
	t.Parallel()
	none, one, three := allPairs(0), allPairs(2), allPairs(3)
	for _, c := range []struct {
		h    []api.Point
		want [][2]int
	}{
		{nil, none}, {[]api.Point{}, none}, {round(1, 2)[:0], none}, {round(0, 0), none}, {round(3, -4), none}, {round(greatest, least), none}, {round(-least, greatest), none},
		{round(0, 0, 2, 0), one}, {round(1, -1, 1, 3), one}, {round(-3, -1, 6, 2), one}, {round(-1, 4, 2, 1), one}, {round(-greatest, -greatest, greatest, greatest), one}, {round(0, 0, 0, least), one}, {round(1, 1, over(1), 1), one}, {round(-least, 0, greatest, 0), one},
		{round(0, 0, 4, 0, 0, 4), three}, {round(0, 0, 4, 0, 1, 1), three}, {round(-5, -7, -4, -9, -1, -8), three}, {round(0, 0, 1, 1, 0.5, 0.5+0x1p-53), three}, {round(0, 0, 0.5, 0.5-0x1p-54, 1, 1), three}, {round(-leastHigh, 0, 0, -leastHigh, least, 0), three}, {round(0, 0, greatest, least, greatest, 2*least), three}, {round(0, 0, least, 0, 0, least), three},
		// Four: lines alongside each other twice, once, and not.
		{round(0, 0, 2, 0, 2, 2, 0, 2), allPairs(4)}, {round(-1, 0, 0, -1, 1, 0, 0, 1), allPairs(4)}, {round(0, 0, 2, 1, 3, 3, 1, 2), allPairs(4)}, {round(-greatest, -greatest, greatest, -greatest, greatest, greatest, -greatest, greatest), allPairs(4)}, {round(0, 0, least, 0, least, least, 0, least), allPairs(4)}, {round(-greatest, 0, 0, -least, greatest, 0, 0, least), allPairs(4)},
		{round(0, 0, 4, 0, 3, 2, 1, 2), [][2]int{{0, 1}, {0, 2}, {0, 3}, {1, 2}, {1, 3}}}, {round(0, 1, 1, 0, 4, 0, 5, 1), [][2]int{{0, 1}, {0, 2}, {0, 3}, {1, 3}, {2, 3}}}, {round(0, 0, 2, 0, 2, 3, 0, 1), [][2]int{{0, 1}, {0, 2}, {1, 2}, {1, 3}, {2, 3}}},
		{round(0, 0, 2, 0, 3, 3, 0, 2), [][2]int{{0, 2}, {1, 2}, {1, 3}, {2, 3}}}, {round(0, 0, 2, 0, 2, over(2), 0, 2), [][2]int{{0, 1}, {0, 2}, {1, 2}, {1, 3}, {2, 3}}}, {round(0, 0, 2, 0, over(2), 2, 0, 2), [][2]int{{0, 2}, {0, 3}, {1, 2}, {1, 3}, {2, 3}}}, {round(0, 0, 2, 0, under(2), 2, 0, 2), [][2]int{{0, 1}, {0, 2}, {0, 3}, {1, 2}, {1, 3}}},
		// A corner that is opposite to all others, first, in the midst, last.
		{round(0, 0, 9, -1, 10, 0, 9, 1), [][2]int{{0, 1}, {0, 2}, {0, 3}, {1, 3}}}, {round(-1, 9, 0, 0, 1, 9, 0, 10), [][2]int{{0, 1}, {0, 2}, {1, 2}, {1, 3}}}, {round(-1, 0, 0, -1, 1, 0, 0, 9), [][2]int{{0, 2}, {0, 3}, {1, 3}, {2, 3}}},
		// Five, of a square and a roof; six, turned half round, and not.
		{round(0, 0, 4, 0, 4, 4, 2, 5, 0, 4), [][2]int{{0, 1}, {0, 2}, {0, 3}, {1, 3}, {1, 4}, {2, 4}}},
		{round(-2, 0, -1, -2, 1, -2, 2, 0, 1, 2, -1, 2), [][2]int{{0, 2}, {0, 3}, {0, 4}, {1, 3}, {1, 4}, {1, 5}, {2, 4}, {2, 5}, {3, 5}}},
	} {
		wantPairs(t, c.h, c.want)
		checkPairs(t, c.h)
	}
}

// Each hull of points of a grid.
func TestPairsGrid(t *testing.T) {
	t.Parallel()
	for _, h := range gridHulls() {
		checkPairs(t, h)
		checkDiameter(t, h)
	}
}

// Right rounds of all kinds. Of three corners or more there are as many pairs as
// corners, and one more for each two lines that go alongside each other.
func TestPairsOfRounds(t *testing.T) {
	t.Parallel()
	blind, along, ends := 0, 0, 0
	for _, h := range rounds() {
		pairs := checkPairs(t, h)
		many := spreadOf(h).alongside()
		if len(h) > 2 && len(pairs) != len(h)+many {
			t.Errorf("of %s, %d pairs, by the words", seen(h...), len(pairs))
		}
		if len(h) > 3 && slices.Contains(pairs, [2]int{0, len(h) - 1}) {
			ends++
		}
		if len(h) > 3 && many > 0 {
			along++
		}
		for i, p := range h {
			if _, sure := filter.Turn(p, h[(i+1)%len(h)], h[(i+2)%len(h)]); len(h) > 2 && !sure {
				blind++
				break
			}
		}
	}
	if blind < 30 || along < 30 || ends < 30 {
		t.Errorf("of %d floats aren't sure, %d have lines alongside, %d the first and the last as a pair", blind, along, ends)
	}
}

// Lines alongside each other: rounds that are their own picture when turned half
// round, of lines of the same length each; and a belt, of other ones each.
func TestPairsAlongside(t *testing.T) {
	t.Parallel()
	for _, half := range append(rounds(), gridHulls()...) {
		h := mirrored(half)
		pairs := checkPairs(t, h)
		for i := range len(h) / 2 {
			if !slices.Contains(pairs, [2]int{i, i + len(h)/2}) {
				t.Errorf("of %s %d and that turned half round are no pair, by the words", seen(h...), i)
			}
		}
		if n := len(h); n > 3 && len(pairs) != n+n/2 {
			t.Errorf("of %s, %d pairs, by the words", seen(h...), len(pairs))
		}
		checkDiameter(t, h)
	}
	for power := -1074; power < 1010; power += 60 {
		for _, view := range views() {
			h := times(seenFrom(belt(), view), math.Ldexp(1, power))
			if pairs := checkPairs(t, h); len(pairs) != 24+12 {
				t.Errorf("of a belt %d pairs, by the words", len(pairs))
			}
		}
	}
}

// Lines that were alongside each other, and one corner then was moved by one
// float: some are no longer, though floats don't tell.
func TestPairsNearlyAlongside(t *testing.T) {
	t.Parallel()
	fewer, as := 0, 0
	for _, size := range []float64{1, 0x1p-1074, 0x1p-1020, 0x1p900, 0x1p50} {
		for _, h := range alongsides() {
			h = times(h, size)
			many := len(checkPairs(t, h))
			nudged(h, func(h []api.Point) {
				if len(checkPairs(t, h)) < many {
					fewer++
				} else {
					as++
				}
				checkDiameter(t, h)
			})
		}
	}
	if fewer < 2000 || as < 100 {
		t.Errorf("fewer pairs %d times, as many %d times", fewer, as)
	}
}

// Of a bowl and a corner high above it that one is opposite to all others, which
// has each place in one of the views; all others but the ends of the bowl are
// to none but that.
func TestPairsOneForAll(t *testing.T) {
	t.Parallel()
	for _, n := range []int{3, 4, 5, 8, 21, 60} {
		places := map[int]bool{}
		bow := bowl(n, -n/2)
		top := at(0, float64(4*n*n))
		for _, view := range views() {
			h := seenFrom(append(slices.Clone(bow), top), view)
			place := slices.Index(h, view(top))
			places[place] = true
			var want [][2]int
			for i := range h {
				if i != place {
					want = append(want, [2]int{min(i, place), max(i, place)})
				}
			}
			ends := []int{slices.Index(h, view(bow[0])), slices.Index(h, view(bow[n-1]))}
			want = append(want, [2]int{slices.Min(ends), slices.Max(ends)})
			slices.SortFunc(want, func(a, b [2]int) int { return slices.Compare(a[:], b[:]) })
			wantPairs(t, h, want)
			checkPairs(t, h)
		}
		if !places[0] || n > 3 && len(places) < 4 {
			t.Errorf("of %d it was at %v", n, places)
		}
	}
}

// bowlPairs: of a bowl, those that there are. The way back from its last corner
// to the first one rises as steeply as its lines do in the midst, so that corners
// left of that are opposite to the last one, and those right of it to the first.
func bowlPairs(n, from int) (list [][2]int) {
	steep := from + from + n - 1
	for k := 1; k < n; k++ {
		if x := from + k; 2*x+1 >= steep {
			list = append(list, [2]int{0, k})
		}
	}
	for k := 1; k < n-1; k++ {
		if x := from + k; 2*x-1 <= steep {
			list = append(list, [2]int{k, n - 1})
		}
	}
	return list
}

// Some hundreds, and some thousands.
func TestPairsOfHundreds(t *testing.T) {
	t.Parallel()
	for _, h := range [][]api.Point{wheel(100), wheel(257), times(wheel(300), 0x1p-1000), times(wheel(128), 0x1p1000), mirrored(wheel(101)), ring(5525), ring(27625), mirrored(bowl(90, 4))} {
		checkPairs(t, h)
		checkRuns(t, h)
		checkDiameter(t, h)
	}
	for _, n := range []int{3, 4, 5, 6, 7, 8, 50, 51, 200} {
		for _, from := range []int{0, 1 - n, -n / 2, -n - 3, 17} {
			wantPairs(t, bowl(n, from), bowlPairs(n, from))
			checkPairs(t, bowl(n, from))
		}
	}
	for _, h := range [][]api.Point{wheel(5000), times(wheel(4096), 0x1p-1000), mirrored(wheel(2001)), mirrored(bowl(1500, -2))} {
		checkRuns(t, h)
	}
	for _, c := range [][2]int{{4600, -2300}, {4096, 0}, {5001, -17}} {
		wantPairs(t, bowl(c[0], c[1]), bowlPairs(c[0], c[1]))
	}
}

// checkRuns holds the pairs of a round of any size against the words: those that
// are told are opposite; and all to which one corner is opposite stand one
// behind the other, so that beyond both ends there is no more.
func checkRuns(t *testing.T, h []api.Point) {
	t.Helper()
	s, n := spreadOf(h), len(h)
	pairs, e := wide.Pairs(h)
	others := make([]map[int]bool, n)
	for i := range h {
		others[i] = map[int]bool{}
	}
	for k, p := range pairs {
		others[p[0]][p[1]], others[p[1]][p[0]] = true, true
		if p[0] >= p[1] || k > 0 && slices.Compare(pairs[k-1][:], p[:]) >= 0 || !s.opposite(p[0], p[1]) {
			t.Errorf("P17.1: Pairs of %s: %v", seen(h...), p)
		}
	}
	for i := range h {
		ends := 0
		for j := range others[i] {
			for _, next := range []int{(j + 1) % n, (j + n - 1) % n} {
				if !others[i][next] {
					ends++
					if next != i && s.opposite(i, next) {
						t.Errorf("P17.1: Pairs of %s hasn't %d, %d", seen(h...), i, next)
					}
				}
			}
		}
		if e != nil || ends != 2 {
			t.Errorf("P17.1: Pairs of %s: of %d there are %v, %v", seen(h...), i, others[i], e)
		}
	}
}

// What the document gives, and edges that it names, written out.
func TestDiameter(t *testing.T) {
	t.Parallel()
	whole := func(n int64) *big.Rat { return big.NewRat(n, 1) }
	// squares: so many squares of a float.
	squares := func(n int64, x float64) *big.Rat {
		r := new(big.Rat).SetFloat64(x)
		return r.Mul(r, r).Mul(r, whole(n))
	}
	// between: the square of how far two floats lie apart, and such of others.
	between := func(numbers ...float64) *big.Rat {
		sum := new(big.Rat)
		for i := 0; i < len(numbers); i += 2 {
			r := new(big.Rat).SetFloat64(numbers[i])
			r.Sub(r, new(big.Rat).SetFloat64(numbers[i+1]))
			sum.Add(sum, r.Mul(r, r))
		}
		return sum
	}
	for _, c := range []struct {
		h    []api.Point
		far  *big.Rat
		i, j int
	}{
		{round(0, 0, 2, 0, 2, 2, 0, 2), whole(8), 0, 2},
		// One.
		{round(0, 0), whole(0), 0, 0}, {round(3, 4), whole(0), 0, 0}, {round(-greatest, least), whole(0), 0, 0},
		// Two.
		{round(0, 0, 3, 4), whole(25), 0, 1}, {round(0, 0, 0.5, 0.25), big.NewRat(5, 16), 0, 1}, {round(-1, -1, 0.5, 1), big.NewRat(25, 4), 0, 1}, {round(1, 1, 1, over(1)), squares(1, 0x1p-52), 0, 1}, {round(0, 0, 0, least), squares(1, least), 0, 1}, {round(0, 0, least, least), squares(2, least), 0, 1}, {round(-greatest, 0, greatest, 0), squares(4, greatest), 0, 1}, {round(-greatest, -greatest, greatest, greatest), squares(8, greatest), 0, 1}, {round(-greatest, -least, greatest, least), between(greatest, -greatest, least, -least), 0, 1}, {round(0.1, 0.2, 0.3, 0.7), between(0.1, 0.3, 0.2, 0.7), 0, 1},
		// Three: the first and the last one, others, two, and all just as far.
		{round(0, 0, 4, 0, 1, 1), whole(16), 0, 1}, {round(0, 0, 1, -1, 4, 0), whole(16), 0, 2}, {round(0, 0, 1, 0, 0, 2), whole(5), 1, 2}, {round(0, 0, 1, -3, 1, 3), whole(36), 1, 2}, {round(0, 0, 4, -3, 5, 0), whole(25), 0, 1}, {round(0, 0, 4, -3, 4, 3), whole(36), 1, 2}, {round(0, 0, 4, -2, 4, 2), whole(20), 0, 1}, {round(0, 0, 12, 5, 5, 12), whole(169), 0, 1}, {round(-5, 0, 0, -5, 5, 0), whole(100), 0, 2}, {round(0, 0, 1, 1, 0.5, 0.5+0x1p-53), whole(2), 0, 1}, {round(0, 0, 0.5, 0.5-0x1p-54, 1, 1), whole(2), 0, 2},
		// Just as far: the least i, and the least j of it.
		{round(0, 0, 24, -7, 25, 0, 24, 7), whole(625), 0, 1}, {round(0, 0, 24, 7, 20, 15, 15, 20, 7, 24), whole(625), 0, 1}, {round(0, 5, 18, -2, 24, -2, 25, 5, 20, 20), whole(625), 0, 2}, {round(-1, 0, 0, -1, 1, 0, 0, 1), whole(4), 0, 2}, {round(-2, 0, -1, -2, 1, -2, 2, 0, 1, 2, -1, 2), whole(20), 1, 4}, {ring(25), whole(100), 0, 6}, {ring(5525), whole(4 * 5525), 0, 24},
		// One float beside: the other pair is the farther one.
		{round(-1, 0, 0, -1, 1, 0, 0, over(1)), between(-1, over(1)), 1, 3}, {round(-1, 0, 0, -1, over(1), 0, 0, 1), between(-1, over(1)), 0, 2}, {round(-1, 0, 0, -1, 1, 0, 0, under(1)), whole(4), 0, 2}, {round(-1, 0, 0, -1, under(1), 0, 0, 1), whole(4), 1, 3}, {round(-least, 2, 0, 0, 2, 0, 2, 2), between(-least, 2, 2, 0), 0, 2}, {round(-least, 0, 2, 0, 2, 2, 0, 2), between(-least, 2, 2, 0), 0, 2}, {round(0, 0, 2, -least, 2, 2, 0, 2), between(2, 0, 2, -least), 1, 3}, {round(0, 0, 24, 7, 20, 15, 15, 20, 7, over(24)), between(7, 0, over(24), 0), 0, 4}, {round(0, 0, 24, 7, 20, 15, 15, over(20), 7, 24), between(15, 0, over(20), 0), 0, 3}, {round(0, 0, 24, under(7), 20, 15, 15, 20, 7, 24), whole(625), 0, 2},
		// The greatest floats and the least ones.
		{round(-greatest, -greatest, greatest, -greatest, greatest, greatest, -greatest, greatest), squares(8, greatest), 0, 2}, {round(-greatest, -greatest, greatest, -greatest, under(greatest), greatest, -greatest, greatest), squares(8, greatest), 1, 3}, {round(0, 0, least, 0, least, least, 0, least), squares(2, least), 0, 2}, {round(0, 0, least, 0, least, 2*least, 0, least), squares(5, least), 0, 2}, {round(-greatest, 0, 0, -least, greatest, 0, 0, least), squares(4, greatest), 0, 2}, {round(0, -greatest, least, 0, 0, greatest), squares(4, greatest), 0, 2},
	} {
		wantDiameter(t, c.h, c.far, c.i, c.j)
		checkDiameter(t, c.h)
	}
}

// Right rounds of all kinds: of the farthest two there are all that the document
// names, and each that lie just as far apart are opposite.
func TestDiameterOfRounds(t *testing.T) {
	t.Parallel()
	ends, neighbours, beyond, below := 0, 0, 0, 0
	for _, round := range rounds() {
		if len(round) < 2 {
			continue
		}
		for _, view := range views() {
			h := seenFrom(round, view)
			places := checkDiameter(t, h)
			pairs := spreadOf(h).pairs()
			for _, p := range places {
				if !slices.Contains(pairs, p) {
					t.Errorf("P17.3: %v of %s aren't opposite, by the words", p, seen(h...))
				}
				if n := len(h); n > 3 && p == [2]int{0, n - 1} {
					ends++
				} else if n > 3 && p[1] == p[0]+1 {
					neighbours++
				}
			}
			if far, sure := filter.Far(h[places[0][0]], h[places[0][1]]); !sure && floatX(h[0]) < -1 {
				beyond++
			} else if !sure || far < 0x1p-900 {
				below++
			}
		}
	}
	if ends < 20 || neighbours < 20 || beyond < 50 || below < 50 {
		t.Errorf("the ends %d times, neighbours %d times; beyond floats %d times, below %d", ends, neighbours, beyond, below)
	}
}

// Corners by chance of a ring, as they are, and one float beside: several pairs
// lie just as far apart, or nearly so.
func TestDiameterOfRings(t *testing.T) {
	t.Parallel()
	by := dice(17)
	several, late, near := 0, 0, 0
	for k := range 300 {
		h := partOfRing(k, 2, by)
		places := checkDiameter(t, h)
		if len(places) > 1 {
			several++
		}
		if places[0][0] > 0 {
			late++
		}
		checkPairs(t, h)
		if k%10 == 0 {
			nudged(h, func(h []api.Point) {
				near++
				checkDiameter(t, h)
			})
		}
	}
	if several < 150 || late < 50 || near < 1000 {
		t.Errorf("several pairs %d times, not the first corner %d times, nearly so %d times", several, late, near)
	}
}

// fans: a corner, and others that all lie just as far from it, and less far from
// one another, from all sides.
func fans(do func(h []api.Point, tip api.Point)) {
	for _, square := range []int{625, 4225, 27625} {
		var rim []api.Point
		for _, p := range ring(square) {
			if floatX(p) >= 0 && floatY(p) >= 0 && floatX(p)*2 > floatY(p) && floatY(p)*2 > floatX(p) {
				rim = append(rim, p)
			}
		}
		for _, view := range views() {
			do(seenFrom(append(rim, at(0, 0)), view), view(at(0, 0)))
		}
	}
}

// One corner lies just as far from many: the least of their places is told,
// whichever place it has itself.
func TestDiameterOfFans(t *testing.T) {
	t.Parallel()
	first, last := 0, 0
	fans(func(h []api.Point, tip api.Point) {
		place := slices.Index(h, tip)
		places := checkDiameter(t, h)
		if len(h) < 3 || len(places) != len(h)-1 {
			t.Errorf("of %s there are %v, by the words", seen(h...), places)
		}
		switch place {
		case 0:
			first++
		case len(h) - 1:
			last++
		}
		nudged(h, func(h []api.Point) { checkDiameter(t, h) })
	})
	if first < 6 || last < 1 {
		t.Errorf("the tip came first %d times, last %d times", first, last)
	}
}

// The first and the last corner, and two that stand one behind the other, lie
// farther apart than all others, whichever place these two have.
func TestDiameterOfNeighbours(t *testing.T) {
	t.Parallel()
	for n := 3; n < 40; n += 1 + n/6 {
		lines := make([]int, n)
		for from := 1 - n; from <= 0; from++ {
			// Flat enough, it is its long line that is the longest way.
			var flat []api.Point
			for _, p := range bowl(n, from) {
				flat = append(flat, at(floatX(p), floatY(p)*0x1p-20))
			}
			for _, view := range views() {
				h := seenFrom(flat, view)
				places := checkDiameter(t, h)
				if p := places[0]; len(places) == 1 && p[1] == p[0]+1 {
					lines[p[0]]++
				} else if p == [2]int{0, n - 1} {
					lines[n-1]++
				} else {
					t.Errorf("of %s there are %v, by the words", seen(h...), places)
				}
			}
		}
		if lines[n-1] == 0 || lines[0] == 0 {
			t.Errorf("of %d: %v", n, lines)
		}
	}
}

// Some thousands.
func TestDiameterOfThousands(t *testing.T) {
	t.Parallel()
	for _, h := range [][]api.Point{wheel(2000), wheel(4096), wheel(5000), mirrored(wheel(1001)), bowl(4600, -2300), bowl(4096, 0), mirrored(bowl(1500, -2))} {
		checkDiameter(t, h)
	}
}
