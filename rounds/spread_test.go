package rounds_test

import (
	"cmp"
	"math"
	"math/big"
	"math/rand/v2"
	"slices"
	"testing"

	"outrigger/api"
	"outrigger/chain"
)

// spread: where corners lie, exactly: each coordinate, times 2^power.
type spread struct {
	x, y  []*big.Int
	power uint
	// turns keeps what turn tells, where there aren't too many.
	turns []int8
}

func spreadOf(h []api.Point) (s spread) {
	for _, p := range h {
		s.x, s.y = append(s.x, number(p.X)), append(s.y, number(p.Y))
	}
	low := uint(1074)
	for _, x := range slices.Concat(s.x, s.y) {
		if x.Sign() != 0 {
			low = min(low, x.TrailingZeroBits())
		}
	}
	for _, x := range slices.Concat(s.x, s.y) {
		x.Rsh(x, low)
	}
	s.power = 1074 - low
	if len(h) <= 400 {
		s.turns = make([]int8, len(h)*len(h))
	}
	return s
}

// way: how far it is from one corner to another, to the right and up.
func (s spread) way(from, to int) (x, y *big.Int) {
	x, y = new(big.Int), new(big.Int)
	return x.Sub(s.x[to], s.x[from]), y.Sub(s.y[to], s.y[from])
}

// cross: which way one turns that goes first from a to b, and then as from c to d.
func (s spread) cross(a, b, c, d int) int {
	x, y := s.way(a, b)
	toX, toY := s.way(c, d)
	return x.Mul(x, toY).Cmp(y.Mul(y, toX))
}

// square: that of how far two corners lie apart.
func (s spread) square(i, j int) *big.Int {
	x, y := s.way(i, j)
	return x.Mul(x, x).Add(x, y.Mul(y, y))
}

// isStrip: does no corner lie beside the strip between two lines through i and
// j, that go as from a to b?
func (s spread) isStrip(i, j, a, b int) bool {
	for k := range s.x {
		if s.cross(a, b, i, k) < 0 || s.cross(a, b, j, k) > 0 {
			return false
		}
	}
	return true
}

// oppositeByWords: are two corners opposite, by layer 17's words? If there is a
// strip, its lines may be turned around both till one of them goes through one
// corner more, and so goes as from one corner to another.
func (s spread) oppositeByWords(i, j int) bool {
	for a := range s.x {
		for b := range s.x {
			if a != b && s.isStrip(i, j, a, b) {
				return true
			}
		}
	}
	return false
}

// turn: that of one border and another one, by the places that they begin at.
func (s spread) turn(a, b int) int {
	n := len(s.x)
	if s.turns == nil {
		return s.cross(a, (a+1)%n, b, (b+1)%n)
	}
	if s.turns[a*n+b] == 0 {
		s.turns[a*n+b] = 2 + int8(s.cross(a, (a+1)%n, b, (b+1)%n))
	}
	return int(s.turns[a*n+b]) - 2
}

// opposite: are two corners of a right round opposite? A line that has none to
// its right goes through a corner, if it goes as one of both borders there, or
// between the two; one of both lines may go as a border.
func (s spread) opposite(i, j int) bool {
	n := len(s.x)
	h, k := (i+n-1)%n, (j+n-1)%n
	return s.turn(i, j) <= 0 && s.turn(k, i) <= 0 || s.turn(h, j) <= 0 && s.turn(k, h) <= 0 ||
		s.turn(j, i) <= 0 && s.turn(h, j) <= 0 || s.turn(k, i) <= 0 && s.turn(h, k) <= 0
}

// pairs: all places of opposite corners.
func (s spread) pairs() (list [][2]int) {
	for i := range s.x {
		for j := i + 1; j < len(s.x); j++ {
			if s.opposite(i, j) {
				list = append(list, [2]int{i, j})
			}
		}
	}
	return list
}

// ratio: so much, of what is a product of two coordinates or a sum of such.
func (s spread) ratio(much *big.Int) *big.Rat {
	one := big.NewInt(1)
	return new(big.Rat).SetFrac(much, one.Lsh(one, 2*s.power))
}

// farthest: the greatest square of how far two corners lie apart, and all pairs
// of places that lie so far apart, rising.
func (s spread) farthest(near func(i, j int) bool) (far *big.Rat, places [][2]int) {
	most := new(big.Int)
	for i := range s.x {
		for j := i + 1; j < len(s.x); j++ {
			if near(i, j) {
				continue
			}
			square := s.square(i, j)
			switch square.Cmp(most) {
			case 1:
				most, places = square, nil
				fallthrough
			case 0:
				places = append(places, [2]int{i, j})
			}
		}
	}
	return s.ratio(most), places
}

// nearer: of many points, of middling sizes, which two surely aren't the farthest
// ones, by floats? Of fewer points none is told to be so.
func nearer(h []api.Point) func(i, j int) bool {
	if len(h) <= 400 {
		return func(i, j int) bool { return false }
	}
	square := func(i, j int) float64 {
		x, y := floatX(h[j])-floatX(h[i]), floatY(h[j])-floatY(h[i])
		return x*x + y*y
	}
	most := 0.0
	for i := range h {
		for j := range i {
			most = max(most, square(i, j))
		}
	}
	return func(i, j int) bool { return square(i, j) < most*(1-0x1p-40) }
}

// farthestOf: what farthest tells, of good points.
func farthestOf(h []api.Point) (far *big.Rat, places [][2]int) {
	return spreadOf(h).farthest(nearer(h))
}

// limbsOf: a number of limbs, plain.
func limbsOf(x *big.Int) (limbs []uint64) {
	x = new(big.Int).Abs(x)
	for x.Sign() != 0 {
		limbs = append(limbs, new(big.Int).And(x, new(big.Int).SetUint64(math.MaxUint64)).Uint64())
		x.Rsh(x, 64)
	}
	return limbs
}

// isRatio: is a ratio so much, and right, by layer 4's words?
func isRatio(r api.Ratio, want *big.Rat) bool {
	return r.Num.Neg == (want.Sign() < 0) && slices.Equal(r.Num.Mag, limbsOf(want.Num())) &&
		!r.Den.Neg && slices.Equal(r.Den.Mag, limbsOf(want.Denom()))
}

// mirrored: the hull of a round and its picture when turned half round.
func mirrored(h []api.Point) []api.Point {
	list := slices.Clone(h)
	for _, p := range h {
		list = append(list, normOf(at(-floatX(p), -floatY(p))))
	}
	h, _ = chain.Hull(list)
	return h
}

// ring: all points of whole numbers of which the squares' sum is that.
func ring(square int) []api.Point {
	var l []api.Point
	most := int(math.Sqrt(float64(square))) + 1
	for x := -most; x <= most; x++ {
		for y := -most; y <= most; y++ {
			if x*x+y*y == square {
				l = append(l, at(float64(x), float64(y)))
			}
		}
	}
	return rightRound(l)
}

// partOfRing: corners by chance of a ring, which is the k-th of a few, by turns,
// of any size; at least so many.
func partOfRing(k, least int, by *rand.Rand) []api.Point {
	size := math.Ldexp(1, by.IntN(2000)-1000)
	all := times(ring([]int{5, 25, 65, 325, 1105}[k%5]), size)
	by.Shuffle(len(all), func(i, j int) { all[i], all[j] = all[j], all[i] })
	return rightRound(all[:least+by.IntN(len(all)-least+1)])
}

// belt: a right round of 24 lines of small whole numbers, of which each has one
// alongside it that is longer, or shorter.
func belt() []api.Point {
	var ways []api.Point
	for _, c := range [][3]api.Point{
		{at(1, 0), at(2, 1), at(3, 1)}, {at(1, 1), at(1, 2), at(2, 3)}, {at(0, 1), at(-1, 2), at(-1, 3)}, {at(-1, 1), at(-2, 1), at(-3, 2)},
	} {
		// The first two together go as far as the third one, so that all ways
		// lead back to where they begin.
		for i, p := range c {
			there, back := 3.0, -1.0
			if i == 2 {
				there, back = 1, -3
			}
			ways = append(ways, at(there*floatX(p), there*floatY(p)), at(back*floatX(p), back*floatY(p)))
		}
	}
	slices.SortFunc(ways, func(a, b api.Point) int {
		return cmp.Compare(math.Atan2(floatY(a), floatX(a)), math.Atan2(floatY(b), floatX(b)))
	})
	x, y := 0.0, 0.0
	var l []api.Point
	for _, p := range ways {
		l = append(l, at(x, y))
		x, y = x+floatX(p), y+floatY(p)
	}
	return rightRound(l)
}

// alongsides: right rounds of which lines go alongside each other.
func alongsides() [][]api.Point {
	return [][]api.Point{round(0, 0, 2, 0, 2, 2, 0, 2), round(1, 1, 7, 1, 7, 5, 1, 5), round(-1, 0, 0, -1, 1, 0, 0, 1), round(3, 1, 9, 3, 10, 8, 4, 6), ring(5), ring(25), mirrored(bowl(4, 1)), belt(), round(0, 0, 4, 0, 3, 2, 1, 2), round(0, 1, 1, 0, 4, 0, 5, 1), round(0, 0, 5, 0, 5, 5, 3, 6, 0, 5)}
}

// alongside: how many pairs of lines go alongside each other.
func (s spread) alongside() (n int) {
	for a := range s.x {
		for b := range a {
			if s.turn(a, b) == 0 {
				n++
			}
		}
	}
	return n
}

// nudged hands to do each right round that is the round but for one corner, which
// is one float beside, on any side.
func nudged(h []api.Point, do func(h []api.Point)) {
	for i, p := range h {
		for _, x := range []float64{under(floatX(p)), floatX(p), over(floatX(p))} {
			for _, y := range []float64{under(floatY(p)), floatY(p), over(floatY(p))} {
				near := slices.Clone(h)
				near[i] = normOf(at(x, y))
				if near[i] != p && isGood(near[i]) && isRight(near) {
					do(near)
				}
			}
		}
	}
}

// What tests go by is itself right: of few corners the borders tell the same
// pairs as the words.
func TestSpread(t *testing.T) {
	t.Parallel()
	if h := belt(); len(h) != 24 || !isRight(h) || spreadOf(h).alongside() != 12 {
		t.Errorf("no belt: %s", seen(h...))
	}
	for _, c := range [][2]int{{1, 4}, {5, 8}, {25, 12}, {65, 16}, {5525, 48}} {
		if h := ring(c[0]); len(h) != c[1] || !isRight(h) {
			t.Errorf("no ring of %d: %s", c[1], seen(h...))
		}
	}
	for _, h := range append(append(rounds(), gridHulls()...), mirrored(bowl(4, -1)), ring(5), nil) {
		if len(h) > 8 {
			continue
		}
		s := spreadOf(h)
		for i := range h {
			for j := range i {
				if words := s.oppositeByWords(i, j); words != s.opposite(i, j) || words != s.opposite(j, i) || words != s.oppositeByWords(j, i) {
					t.Errorf("of %s, %d and %d: %v, by the words", seen(h...), i, j, words)
				}
			}
		}
	}
}
