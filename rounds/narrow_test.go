package rounds_test

import (
	"errors"
	"math"
	"math/big"
	"slices"
	"testing"

	"outrigger/api"
	"outrigger/filter"
	"outrigger/narrow"
)

// wantStrip holds one against what is wanted.
func wantStrip(t *testing.T, h []api.Point, k int, want *big.Rat) {
	t.Helper()
	if r, e := narrow.Strip(h, k); e != nil || !isRatio(r, want) {
		t.Errorf("P18.1: Strip of %s, %d: %v %v, not %v", seen(h...), k, r, e, want)
	}
}

// checkStrips holds all strips of a right round of three or more against the
// words, corner by corner, and tells these, and of each the farthest corners.
func checkStrips(t *testing.T, h []api.Point) (widths []fraction, far [][]int) {
	t.Helper()
	widths, far = spreadOf(h).strips()
	for k, width := range widths {
		wantStrip(t, h, k, width.rat())
	}
	return widths, far
}

// wantWidth holds it against what is wanted.
func wantWidth(t *testing.T, h []api.Point, want *big.Rat) {
	t.Helper()
	if r, e := narrow.Width(h); e != nil || !isRatio(r, want) {
		t.Errorf("P18.2: Width of %s: %v %v, not %v", seen(h...), r, e, want)
	}
}

// checkNarrow holds the width, too, and tells which lines the narrowest strips go
// along, and of each line the farthest corners.
func checkNarrow(t *testing.T, h []api.Point) (lines []int, far [][]int) {
	t.Helper()
	if len(h) < 3 {
		wantWidth(t, h, new(big.Rat))
		return nil, nil
	}
	widths, far := checkStrips(t, h)
	least, lines := narrowest(widths)
	wantWidth(t, h, least.rat())
	return lines, far
}

// product: of some.
func product(numbers ...float64) *big.Rat {
	r := big.NewRat(1, 1)
	for _, x := range numbers {
		r.Mul(r, new(big.Rat).SetFloat64(x))
	}
	return r
}

// sum: of some.
func sum(numbers ...*big.Rat) *big.Rat {
	r := new(big.Rat)
	for _, x := range numbers {
		r.Add(r, x)
	}
	return r
}

// quotient: so much over so much.
func quotient(a, b *big.Rat) *big.Rat { return new(big.Rat).Quo(a, b) }

// What the document gives, and edges that it names, written out.
func TestStrip(t *testing.T) {
	t.Parallel()
	whole := func(n int64) *big.Rat { return big.NewRat(n, 1) }
	const g, l = greatest, least
	// The squares of 2 and once, and twice, what floats behind 1 lie apart.
	long := sum(whole(4), product(0x1p-50), product(0x1p-104))
	longer := product(over(2), over(2))
	// Half, and as much more as less.
	const high, low = 0.5 + 0x1p-53, 0.5 - 0x1p-53
	for _, c := range []struct {
		h    []api.Point
		want []*big.Rat
	}{
		{round(0, 0, 2, 0, 2, 2, 0, 2), []*big.Rat{whole(4), whole(4), whole(4), whole(4)}},
		{round(0, 0, 3, 1, 1, 3), []*big.Rat{big.NewRat(32, 5), whole(8), big.NewRat(32, 5)}},
		{round(0, 0, 4, 0, 1, 1), []*big.Rat{whole(1), big.NewRat(8, 5), whole(8)}},
		{round(0, 0, 1, 0, 0, 1), []*big.Rat{whole(1), big.NewRat(1, 2), whole(1)}},
		// The farthest corner is the next one behind the line, the one ahead of it,
		// one between, and two.
		{round(0, 3, 2, 1, 3, 4, 0, 5), []*big.Rat{whole(8), whole(10), whole(10), whole(9)}},
		{round(0, 1, 1, 0, 5, 1, 4, 3, 0, 3), []*big.Rat{whole(18), big.NewRat(169, 17), whole(20), whole(9), whole(25)}},
		{round(-1, 0, 0, -1, 1, 0, 0, 1), []*big.Rat{whole(2), whole(2), whole(2), whole(2)}},
		// Two corners as far but for one float.
		{round(-1, 0, 0, -1, 1, 0, 0, over(1)), []*big.Rat{
			quotient(long, whole(2)), quotient(long, whole(2)), quotient(longer, sum(whole(1), product(over(1), over(1)))), quotient(longer, sum(whole(1), product(over(1), over(1)))),
		}},
		{round(0, 0, 4, 0, 4, under(4), 0, 4), []*big.Rat{whole(16), whole(16), quotient(whole(256), sum(whole(16), product(0x1p-51, 0x1p-51))), whole(16)}},
		{round(0, 0, 4, 0, 4, 4, 0, over(4)), []*big.Rat{product(over(4), over(4)), whole(16), quotient(product(over(4), over(4), 4, 4), sum(whole(16), product(0x1p-50, 0x1p-50))), whole(16)}},
		// Of less area than floats tell.
		{round(0, 0, 1, 1, 0.5, high), []*big.Rat{
			product(0x1p-107), quotient(product(0x1p-106), sum(product(0.25), product(low, low))), quotient(product(0x1p-106), sum(product(0.25), product(high, high))),
		}},
		// The greatest floats and the least ones.
		{round(-g, -g, g, -g, g, g, -g, g), []*big.Rat{product(g, g, 4), product(g, g, 4), product(g, g, 4), product(g, g, 4)}},
		{round(0, 0, l, 0, l, l, 0, l), []*big.Rat{product(l, l), product(l, l), product(l, l), product(l, l)}},
		{round(0, 0, l, 0, 0, l), []*big.Rat{product(l, l), product(l, l, 0.5), product(l, l)}},
		{round(-g, 0, 0, -l, g, 0), []*big.Rat{
			quotient(product(4, g, g, l, l), sum(product(g, g), product(l, l))), quotient(product(4, g, g, l, l), sum(product(g, g), product(l, l))), product(l, l),
		}},
		{round(0, 0, l, -g, l, g), []*big.Rat{
			quotient(product(4, g, g, l, l), sum(product(g, g), product(l, l))), product(l, l), quotient(product(4, g, g, l, l), sum(product(g, g), product(l, l))),
		}},
		{round(0, 0, 0x1p-600, 0, 0, 0x1p600), []*big.Rat{product(0x1p600, 0x1p600), quotient(whole(1), sum(product(0x1p600, 0x1p600), product(0x1p-600, 0x1p-600))), product(0x1p-600, 0x1p-600)}},
	} {
		for k, want := range c.want {
			wantStrip(t, c.h, k, want)
		}
		checkNarrow(t, c.h)
	}
}

// Each hull of points of a grid.
func TestNarrowGrid(t *testing.T) {
	t.Parallel()
	for _, h := range gridHulls() {
		checkNarrow(t, h)
	}
}

// isLevel: does the line from one corner to the next one go level, or upright?
func isLevel(h []api.Point, line int) bool {
	p, q := h[line], h[(line+1)%len(h)]
	return p.X == q.X || p.Y == q.Y
}

// blind: aren't floats sure of one of the turns of a line's ends and a farthest
// corner?
func blind(h []api.Point, line int, far []int) bool {
	for _, place := range far {
		if _, sure := filter.Turn(h[line], h[(line+1)%len(h)], h[place]); !sure {
			return true
		}
	}
	return false
}

// Right rounds of all kinds.
func TestStripOfRounds(t *testing.T) {
	t.Parallel()
	behind, ahead, both, level, unsure, beyond, below := 0, 0, 0, 0, 0, 0, 0
	count := func(n *int, is bool) {
		if is {
			*n++
		}
	}
	for _, round := range rounds() {
		for _, view := range views()[2:6] {
			h := seenFrom(round, view)
			n := len(h)
			if n < 4 {
				continue
			}
			widths, far := checkStrips(t, h)
			for k, places := range far {
				count(&behind, places[0] == (k+2)%n && len(places) == 1)
				count(&ahead, places[0] == (k+n-1)%n && len(places) == 1)
				count(&both, len(places) == 2)
				count(&level, isLevel(h, k))
				count(&unsure, blind(h, k, places))
				size, _ := widths[k].rat().Float64()
				count(&beyond, math.IsInf(size, 1))
				count(&below, size == 0)
			}
		}
	}
	for i, n := range []int{behind, ahead, both, level, unsure, beyond, below} {
		if n < 200 {
			t.Errorf("%d: only %d lines", i, n)
		}
	}
}

// Two corners that lie just as far from a line, and then one of both one float
// beside, though floats don't tell.
func TestStripNearlyAsFar(t *testing.T) {
	t.Parallel()
	as, fewer := 0, 0
	two := func(h []api.Point) (n int) {
		_, far := checkNarrow(t, h)
		for _, places := range far {
			n += len(places) - 1
		}
		return n
	}
	for _, size := range []float64{1, 0x1p-1074, 0x1p900} {
		for _, h := range alongsides() {
			h = times(h, size)
			many := two(h)
			nudged(h, func(h []api.Point) {
				if two(h) < many {
					fewer++
				} else {
					as++
				}
			})
		}
	}
	if fewer < 1200 || as < 60 {
		t.Errorf("fewer just as far %d times, as many %d times", fewer, as)
	}
}

// bowlStrips: those of a bowl, of which a line's farthest corner is one of both ends, but
// that of the last line, which goes back to the first corner, is in the midst.
func bowlStrips(n, from int) (widths []*big.Rat) {
	x := func(place int) int64 { return int64(from + place) }
	for k := range n - 1 {
		// A corner lies as far above a line from x to x + 1 as both times from
		// its own x come to.
		high := max((x(k)-x(0))*(x(k+1)-x(0)), (x(n-1)-x(k))*(x(n-1)-x(k+1)))
		slope := x(k) + x(k+1)
		widths = append(widths, big.NewRat(high*high, 1+slope*slope))
	}
	middle := n / 2
	low := (x(middle) - x(0)) * (x(n-1) - x(middle))
	slope := x(0) + x(n-1)
	return append(widths, big.NewRat(low*low, 1+slope*slope))
}

// leastOf: of some.
func leastOf(widths []*big.Rat) *big.Rat {
	return slices.MinFunc(widths, func(a, b *big.Rat) int { return a.Cmp(b) })
}

// Some hundreds, and some thousands.
func TestNarrowOfHundreds(t *testing.T) {
	t.Parallel()
	for _, h := range [][]api.Point{wheel(100), wheel(257), times(wheel(300), 0x1p-1000), times(wheel(128), 0x1p1000), mirrored(wheel(101)), ring(5525), ring(27625), mirrored(bowl(90, 4)), times(bowl(150, -17), least)} {
		checkNarrow(t, h)
	}
	for _, n := range []int{3, 4, 5, 6, 7, 8, 50, 51, 200, 4600} {
		for _, from := range []int{0, 1 - n, -n / 2, -n - 3, 17} {
			h, widths := bowl(n, from), bowlStrips(n, from)
			for k, want := range widths {
				if n < 1000 || k%97 < 2 || k > n-3 {
					wantStrip(t, h, k, want)
				}
			}
			wantWidth(t, h, leastOf(widths))
			if n < 100 {
				checkNarrow(t, h)
			}
		}
	}
	for _, h := range [][]api.Point{wheel(5000), times(wheel(4096), 0x1p-1000), mirrored(wheel(2001)), mirrored(bowl(1500, -2))} {
		s, n := spreadOf(h), len(h)
		for _, k := range []int{0, 1, n / 3, n / 2, n - 2, n - 1} {
			width, _ := s.strip(k)
			wantStrip(t, h, k, width.rat())
		}
	}
}

// What the document gives, and edges that it names, written out.
func TestWidth(t *testing.T) {
	t.Parallel()
	for _, c := range []struct {
		h    []api.Point
		want *big.Rat
	}{
		{round(0, 0, 2, 0, 2, 2, 0, 2), big.NewRat(4, 1)}, {round(0, 0, 3, 1, 1, 3), big.NewRat(32, 5)},
		// One, and two.
		{round(0, 0), product(0)}, {round(-3, 7), product(0)}, {round(greatest, -least), product(0)},
		{round(0, 0, 2, 0), product(0)}, {round(-3, -1, 6, 2), product(0)}, {round(0, 1, 0, over(1)), product(0)}, {round(-greatest, -greatest, greatest, greatest), product(0)}, {round(-least, 0, 0, least), product(0)},
		// Three.
		{round(0, 0, 4, 0, 1, 1), big.NewRat(1, 1)}, {round(0, 0, 1, 0, 0, 1), big.NewRat(1, 2)}, {round(0, 0, 0.5, -0.25, 1, 0), big.NewRat(1, 16)}, {round(0, 0, 1, 1, 0.5, 0.5+0x1p-53), product(0x1p-107)}, {round(0, 0, least, 0, 0, least), product(least, least, 0.5)},
		// Along the first line alone, along the last one, along others, along several;
		// and neither along the shortest line nor along the longest one.
		{round(0, 1, 2, 2, 4, 5, 0, 4), big.NewRat(36, 5)}, {round(0, 3, 2, 1, 3, 4, 0, 5), big.NewRat(8, 1)}, {round(0, 5, 1, 2, 2, 0, 3, 1, 4, 4), big.NewRat(121, 10)},
		{round(0, 1, 3, 0, 4, 5, 1, 3), big.NewRat(49, 5)}, {round(0, 1, 3, 0, 4, 0, 4, 4, 2, 4), big.NewRat(196, 13)}, {round(0, 2, 1, 0, 4, 1, 5, 3, 4, 5, 2, 4), big.NewRat(25, 2)},
		{round(0, 1, 3, 0, 3, 2, 2, 4), big.NewRat(9, 1)}, {round(0, 1, 4, 1, 4, 4, 1, 3), big.NewRat(81, 10)}, {round(0, 1, 1, 0, 5, 1, 4, 3, 0, 3), big.NewRat(9, 1)}, {round(0, 1, 3, 1, 4, 2, 4, 3, 3, 3, 1, 2), big.NewRat(16, 5)},
		{round(1, 2, 2, 0, 4, 2, 2, 4), big.NewRat(36, 5)}, {round(0, 2, 1, 0, 3, 0, 4, 2, 2, 5), big.NewRat(64, 5)}, {round(1, 3, 2, 1, 3, 1, 4, 3, 2, 5), big.NewRat(36, 5)}, {round(0, 2, 1, 1, 3, 0, 5, 1, 5, 2, 3, 4), big.NewRat(25, 2)}, {round(1, 1, 2, 1, 4, 2, 5, 4, 2, 4, 1, 2), big.NewRat(36, 5)},
		// One float beside.
		{round(0, 0, 2, 0, 2, over(2), 0, 2), big.NewRat(4, 1)}, {round(0, 0, 2, 0, over(2), 2, 0, 2), big.NewRat(4, 1)}, {round(0, 0, 2, 0, 2, under(2), 0, under(2)), product(under(2), under(2))}, {round(0, 0, under(2), 0, under(2), 2, 0, 2), product(under(2), under(2))}, {round(0, 0, over(2), 0, over(2), over(2), 0, over(2)), product(over(2), over(2))},
		// The greatest floats and the least ones, and unlike ones.
		{round(-greatest, -greatest, greatest, -greatest, greatest, greatest, -greatest, greatest), product(4, greatest, greatest)}, {round(0, 0, least, 0, least, least, 0, least), product(least, least)}, {round(-greatest, 0, 0, -least, greatest, 0), product(least, least)}, {round(0, 0, least, -greatest, least, greatest), product(least, least)}, {round(-greatest, -least, greatest, -least, greatest, least, -greatest, least), product(4, least, least)},
		{round(0, 0, 0x1p-600, 0, 0, 0x1p600), quotient(product(1), sum(product(0x1p600, 0x1p600), product(0x1p-600, 0x1p-600)))},
	} {
		wantWidth(t, c.h, c.want)
		checkNarrow(t, c.h)
	}
}

// Right rounds of all kinds: wherever the narrowest strips lie.
func TestWidthOfRounds(t *testing.T) {
	t.Parallel()
	first, last, between, several, shortest, longest := 0, 0, 0, 0, 0, 0
	for _, round := range append(rounds(), gridHulls()...) {
		for _, view := range views()[3:6] {
			h := seenFrom(round, view)
			lines, _ := checkNarrow(t, h)
			if len(h) < 4 {
				continue
			}
			lengths := spreadOf(h).lengths()
			order := func(a, b *big.Int) int { return a.Cmp(b) }
			short, long := slices.MinFunc(lengths, order), slices.MaxFunc(lengths, order)
			if !slices.ContainsFunc(lines, func(line int) bool { return lengths[line].Cmp(short) == 0 }) {
				shortest++
			}
			if !slices.ContainsFunc(lines, func(line int) bool { return lengths[line].Cmp(long) == 0 }) {
				longest++
			}
			switch {
			case len(lines) > 1:
				several++
			case lines[0] == 0:
				first++
			case lines[0] == len(h)-1:
				last++
			default:
				between++
			}
		}
	}
	for i, n := range []int{first, last, between, several, shortest, longest} {
		if n < 60 {
			t.Errorf("%d: only %d rounds", i, n)
		}
	}
}

// Corners by chance of a ring, as they are, and one float beside: several strips
// are just as narrow, or nearly so.
func TestWidthOfRings(t *testing.T) {
	t.Parallel()
	by := dice(18)
	several, near, moved := 0, 0, 0
	for k := range 300 {
		h := partOfRing(k, 3, by)
		if k%3 == 0 {
			h = mirrored(h)
		}
		lines, _ := checkNarrow(t, h)
		if len(lines) < 2 {
			continue
		}
		several++
		if several%4 == 0 && len(h) < 20 {
			nudged(h, func(h []api.Point) {
				near++
				if other, _ := checkNarrow(t, h); !slices.Contains(other, lines[0]) {
					moved++
				}
			})
		}
	}
	if several < 60 || near < 500 || moved < 100 {
		t.Errorf("several strips %d times, nearly so %d times, not the first one any more %d times", several, near, moved)
	}
}

// Of right rounds of fewer than three there is no strip; of others there are as
// many as corners.
func TestStripRefused(t *testing.T) {
	t.Parallel()
	refused := func(h []api.Point, k int, want error) {
		t.Helper()
		r, e := narrow.Strip(h, k)
		var f *api.Fault
		if r.Num.Mag != nil || r.Num.Neg || r.Den.Mag != nil || r.Den.Neg || e == nil || !errors.Is(e, want) || errors.As(e, &f) {
			t.Errorf("P18.1: Strip of %s, %d: %v %v, not %v", seen(h...), k, r, e, want)
		}
	}
	for _, h := range append(append(rounds(), gridHulls()...), nil, []api.Point{}, wheel(300)) {
		n := len(h)
		for _, k := range []int{-1, n, math.MinInt, math.MaxInt, -n, n + 1, 2*n - 1, 2 * n, math.MinInt + 1, math.MaxInt - 1, math.MaxInt32 + 1} {
			if n < 3 {
				refused(h, k, api.Below)
			} else {
				refused(h, k, api.Range)
			}
		}
		for k := range min(n, 2) {
			if n < 3 {
				refused(h, k, api.Below)
			}
		}
	}
}

// aslant: a way, turned ever so little to one side, and to the other.
func aslant(x, y *big.Int, do func(x, y *big.Int)) {
	for _, power := range []uint{1, 50, 300} {
		longX, longY := new(big.Int).Lsh(x, power), new(big.Int).Lsh(y, power)
		do(new(big.Int).Sub(longX, y), new(big.Int).Add(longY, x))
		do(longX.Add(longX, y), longY.Sub(longY, x))
	}
}

// Along no other way the corners fit into a narrower strip: along ways of small
// whole numbers, through any two corners, at right angles to these, and ever so
// little aslant to a line.
func TestNoOtherWay(t *testing.T) {
	t.Parallel()
	list := append(append(rounds(), gridHulls()...), wheel(40), mirrored(wheel(21)), belt(), ring(1105))
	for _, h := range list {
		s, least := spreadOf(h), fraction{new(big.Int), big.NewInt(1)}
		if len(h) > 2 {
			widths, _ := s.strips()
			least, _ = narrowest(widths)
		}
		wantWidth(t, h, least.rat())
		check := func(x, y *big.Int) {
			if s.across(x, y).cmp(least) < 0 || s.across(new(big.Int).Neg(y), x).cmp(least) < 0 {
				t.Errorf("P18.3: of %s along %v, %v, or at a right angle, they fit into a narrower strip than %v", seen(h...), x, y, least.rat())
			}
		}
		for x := range int64(5) {
			for y := range int64(5) {
				if x+y > 0 {
					check(big.NewInt(x), big.NewInt(y))
					check(big.NewInt(-x), big.NewInt(y))
				}
			}
		}
		step := 1 + len(h)/12
		for i := range h {
			for j := i % step; j < i; j += step {
				check(s.way(i, j))
			}
			if len(h) > 1 {
				x, y := s.way(i, (i+1)%len(h))
				aslant(x, y, check)
			}
		}
	}
}
