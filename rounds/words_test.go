package rounds_test

import (
	"cmp"
	"fmt"
	"math"
	"math/big"
	"math/rand/v2"
	"slices"

	"outrigger/api"
)

const (
	greatest  = math.MaxFloat64
	least     = math.SmallestNonzeroFloat64
	leastHigh = 0x1p-1022 // the least normal float
	infinite  = uint64(2047) << 52
	signBit   = uint64(1) << 63
)

// noughtBelow: 0 below 0.
var noughtBelow = math.Copysign(0, -1)

func at(x, y float64) api.Point {
	return api.Point{X: math.Float64bits(x), Y: math.Float64bits(y)}
}

// round: points of these coordinates, x and y by turns.
func round(numbers ...float64) (h []api.Point) {
	for i := 0; i < len(numbers); i += 2 {
		h = append(h, at(numbers[i], numbers[i+1]))
	}
	return h
}

// over and under: one float beside.
func over(x float64) float64  { return math.Nextafter(x, math.Inf(1)) }
func under(x float64) float64 { return math.Nextafter(x, math.Inf(-1)) }

func floatX(p api.Point) float64 { return math.Float64frombits(p.X) }
func floatY(p api.Point) float64 { return math.Float64frombits(p.Y) }

// seen: the coordinates, for a remark; of a long list those that begin it.
func seen(l ...api.Point) string {
	text := fmt.Sprintf("%d: ", len(l))
	for _, p := range l[:min(len(l), 40)] {
		text += fmt.Sprintf("(%x, %x) ", floatX(p), floatY(p))
	}
	return text
}

// dice: the same numbers in each run.
func dice(seed uint64) *rand.Rand { return rand.New(rand.NewPCG(seed, 14)) }

// isGood: are both bits finite?
func isGood(p api.Point) bool {
	return p.X&infinite != infinite && p.Y&infinite != infinite
}

// lexOf: which of two is lexicographically less. (Floats that are finite are
// held against each other exactly.)
func lexOf(a, b api.Point) int {
	return cmp.Or(cmp.Compare(floatX(a), floatX(b)), cmp.Compare(floatY(a), floatY(b)))
}

// normOf: the point, each 0 below 0 as 0.
func normOf(p api.Point) api.Point {
	if p.X == signBit {
		p.X = 0
	}
	if p.Y == signBit {
		p.Y = 0
	}
	return p
}

// number: the number that finite bits are, times 2^1074, which makes it
// whole; by the document's words (layer 5).
func number(b uint64) *big.Int {
	e, f := b>>52&2047, b&(1<<52-1)
	if e > 0 {
		f |= 1 << 52
		e--
	}
	x := new(big.Int).SetUint64(f)
	x.Lsh(x, uint(e))
	if b&signBit != 0 {
		x.Neg(x)
	}
	return x
}

// sight: how far corners lie from a point, to the right and up, exactly, all
// times one power of two.
type sight struct{ x, y []*big.Int }

func sightOf(h []api.Point, q api.Point) (s sight) {
	less := func(a, b uint64) *big.Int {
		x := number(a)
		return x.Sub(x, number(b))
	}
	for _, p := range h {
		s.x, s.y = append(s.x, less(p.X, q.X)), append(s.y, less(p.Y, q.Y))
	}
	low := uint(math.MaxUint)
	for _, x := range slices.Concat(s.x, s.y) {
		if x.Sign() != 0 {
			low = min(low, x.TrailingZeroBits())
		}
	}
	for _, x := range slices.Concat(s.x, s.y) {
		if x.Sign() != 0 {
			x.Rsh(x, low)
		}
	}
	return s
}

// turn: that of the point and two corners, by layer 7's words.
func (s sight) turn(a, b int) int {
	return new(big.Int).Mul(s.x[a], s.y[b]).Cmp(new(big.Int).Mul(s.y[a], s.x[b]))
}

// square: that of how far a corner lies away.
func (s sight) square(a int) *big.Int {
	x := new(big.Int).Mul(s.x[a], s.x[a])
	return x.Add(x, new(big.Int).Mul(s.y[a], s.y[a]))
}

// isOutermost: is it the right-hand corner (side -1), or the left-hand one (side
// 1)? None lies to that side of the line to it, and of those in the line none
// farther away.
func (s sight) isOutermost(place, side int) bool {
	for i := range s.x {
		turn := s.turn(place, i)
		if turn == side || turn == 0 && s.square(i).Cmp(s.square(place)) > 0 {
			return false
		}
	}
	return true
}

// outermost: the places of all those; of a right round there is but one.
func (s sight) outermost(side int) (places []int) {
	for i := range s.x {
		if s.isOutermost(i, side) {
			places = append(places, i)
		}
	}
	return places
}

// lines: how many of the lines have the point to their right, and how many have
// it in them, before or behind, or in the midst.
func (s sight) lines() (without, in int) {
	for i := range s.x {
		switch s.turn(i, (i+1)%len(s.x)) {
		case -1:
			without++
		case 0:
			in++
		}
	}
	return without, in
}

// held: does a right round hold the point, by layer 10's words?
func held(h []api.Point, q api.Point) bool {
	s := sightOf(h, q)
	without, in := s.lines()
	switch len(h) {
	case 0:
		return false
	case 1:
		return lexOf(h[0], q) == 0
	case 2:
		return in == 2 && lexOf(h[0], q)*lexOf(h[1], q) <= 0
	}
	return without == 0
}

// whereOf: where the point lies of a right round, by layer 16's words.
func whereOf(h []api.Point, q api.Point) int {
	if len(h) < 3 {
		if held(h, q) {
			return api.Boundary
		}
		return api.Outside
	}
	switch without, in := sightOf(h, q).lines(); {
	case without > 0:
		return api.Outside
	case in > 0:
		return api.Boundary
	}
	return api.Inside
}

// isRight: is a round of good points right, by layer 10's words: the first one
// is the least, and each line has all other points to its left?
func isRight(h []api.Point) bool {
	for i, p := range h {
		if p != normOf(p) || i > 0 && lexOf(h[0], p) >= 0 {
			return false
		}
		s := sightOf(h, p)
		for k := 2; k < len(h); k++ {
			if s.turn((i+1)%len(h), (i+k)%len(h)) <= 0 {
				return false
			}
		}
	}
	return true
}

// rightRound: points that are all corners, in their order.
func rightRound(l []api.Point) []api.Point {
	h := slices.Clone(l)
	slices.SortFunc(h, lexOf)
	if len(h) > 2 {
		s := sightOf(h, h[0])
		places := map[api.Point]int{}
		for i, p := range h {
			places[p] = i
		}
		slices.SortFunc(h[1:], func(a, b api.Point) int { return -s.turn(places[a], places[b]) })
	}
	return h
}
