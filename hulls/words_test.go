package hulls_test

import (
	"cmp"
	"fmt"
	"math"
	"math/big"
	"slices"

	"outrigger/api"
)

const (
	greatest  = math.MaxFloat64
	least     = math.SmallestNonzeroFloat64
	leastHigh = 0x1p-1022 // the least normal float
	infinite  = uint64(2047) << 52
	signBit   = uint64(1) << 63
)

// noughtBelow: 0 below 0.
var noughtBelow = math.Copysign(0, -1)

func at(x, y float64) api.Point {
	return api.Point{X: math.Float64bits(x), Y: math.Float64bits(y)}
}

// points: of these coordinates, x and y by turns.
func points(numbers ...float64) (l []api.Point) {
	for i := 0; i < len(numbers); i += 2 {
		l = append(l, at(numbers[i], numbers[i+1]))
	}
	return l
}

// over and under: one float beside.
func over(x float64) float64  { return math.Nextafter(x, math.Inf(1)) }
func under(x float64) float64 { return math.Nextafter(x, math.Inf(-1)) }

func floatX(p api.Point) float64 { return math.Float64frombits(p.X) }
func floatY(p api.Point) float64 { return math.Float64frombits(p.Y) }

// seen: the coordinates, for a remark; of a long list those that begin it.
func seen(l ...api.Point) string {
	text := fmt.Sprintf("%d: ", len(l))
	for _, p := range l[:min(len(l), 40)] {
		text += fmt.Sprintf("(%x, %x) ", floatX(p), floatY(p))
	}
	return text
}

// times: both coordinates of all points so often; by a power of two that
// loses nothing, where none ends below the least float or above the greatest.
func times(l []api.Point, n float64) (list []api.Point) {
	for _, p := range l {
		list = append(list, at(floatX(p)*n, floatY(p)*n))
	}
	return list
}

// number: the number that finite bits are, times 2^1074, which makes it
// whole; by the document's words (layer 5).
func number(b uint64) *big.Int {
	e, f := b>>52&2047, b&(1<<52-1)
	if e > 0 {
		f |= 1 << 52
		e--
	}
	x := new(big.Int).SetUint64(f)
	x.Lsh(x, uint(e))
	if b&signBit != 0 {
		x.Neg(x)
	}
	return x
}

// numbers: those that bits are, all times one power of two, the least that
// makes all whole, so that they are no longer than need be: so often 2 less than
// times 2^1074.
func numbers(bits []uint64) (list []*big.Int, low uint) {
	low = 2098
	for _, b := range bits {
		x := number(b)
		if x.Sign() != 0 {
			low = min(low, x.TrailingZeroBits())
		}
		list = append(list, x)
	}
	for _, x := range list {
		x.Rsh(x, low)
	}
	return list, low
}

// lexOf: which of two is lexicographically less. (Floats that are finite are
// held against each other exactly.)
func lexOf(a, b api.Point) int {
	return cmp.Or(cmp.Compare(floatX(a), floatX(b)), cmp.Compare(floatY(a), floatY(b)))
}

// normOf: the point, each 0 below 0 as 0.
func normOf(p api.Point) api.Point {
	if p.X == signBit {
		p.X = 0
	}
	if p.Y == signBit {
		p.Y = 0
	}
	return p
}

// onceOf: each of the points once, by Norm, lexicographically rising.
func onceOf(l []api.Point) (once []api.Point) {
	for _, p := range l {
		once = append(once, normOf(p))
	}
	slices.SortFunc(once, lexOf)
	return slices.Compact(once)
}

// plane: points that rise lexicographically, each once, as exact numbers. One
// is spoken of by its place.
type plane struct {
	points []api.Point
	x, y   []*big.Int
}

func planeOf(l []api.Point) plane {
	once := onceOf(l)
	var bitsX, bitsY []uint64
	for _, p := range once {
		bitsX, bitsY = append(bitsX, p.X), append(bitsY, p.Y)
	}
	x, _ := numbers(bitsX)
	y, _ := numbers(bitsY)
	return plane{once, x, y}
}

// turn: by layer 7's words; that x and y are so often as great as they are,
// each by a number above 0, doesn't change it.
func (l plane) turn(a, b, c int) int {
	product := func(one, other []*big.Int) *big.Int {
		x, y := new(big.Int).Sub(one[a], one[c]), new(big.Int).Sub(other[b], other[c])
		return x.Mul(x, y)
	}
	return product(l.x, l.y).Cmp(product(l.y, l.x))
}

// table: the turns of all three, to be looked up.
func (l plane) table() func(a, b, c int) int {
	n := len(l.points)
	turns := make([]int8, n*n*n)
	for a := range n {
		for b := range a {
			for c := range b {
				turn := int8(l.turn(a, b, c))
				for _, t := range [][3]int{{a, b, c}, {b, c, a}, {c, a, b}} {
					turns[(t[0]*n+t[1])*n+t[2]] = turn
					turns[(t[1]*n+t[0])*n+t[2]] = -turn
				}
			}
		}
	}
	return func(a, b, c int) int { return int(turns[(a*n+b)*n+c]) }
}

// heldBy: does p lie in a segment between two others, or in a triangle of
// three others, its border counted in? (Where a triangle is but a line, its
// segments are all of it.)
func heldBy(turn func(a, b, c int) int, n, p int) bool {
	for a := range n {
		for b := range a {
			if a == p || b == p {
				continue
			}
			if turn(a, b, p) == 0 && b < p && p < a {
				return true
			}
			for c := range b {
				way := turn(a, b, c)
				if c != p && way != 0 && turn(a, b, p)*way >= 0 && turn(b, c, p)*way >= 0 && turn(c, a, p)*way >= 0 {
					return true
				}
			}
		}
	}
	return false
}

// hullOf: the hull of good points, by layer 10's Words: those that lie in no
// segment and in no triangle of others, in their order to the left.
func hullOf(l []api.Point) []api.Point {
	all := planeOf(l)
	turn := all.table()
	return all.around(func(p int) bool { return !heldBy(turn, len(all.points), p) })
}

// around: the points that are corners, in their order to the left around the
// least one.
func (l plane) around(corner func(p int) bool) (hull []api.Point) {
	var places []int
	for p := range l.points {
		if corner(p) {
			places = append(places, p)
		}
	}
	if len(places) > 2 {
		slices.SortFunc(places[1:], func(a, b int) int { return -l.turn(places[0], a, b) })
	}
	for _, p := range places {
		hull = append(hull, l.points[p])
	}
	return hull
}

// hullBySides: the same, for longer lists: p is a corner, if a line goes
// through it and another point that has nothing to its right, and in it
// nothing but what lies on one side of p. (The farthest to the right around p
// is the only other point that such a line can go through, and it's found in
// one look at all, if there is one.)
func hullBySides(l []api.Point) []api.Point {
	all := planeOf(l)
	return all.around(func(p int) bool {
		side := -1
		for q := range all.points {
			if q != p && (side < 0 || all.turn(p, side, q) < 0) {
				side = q
			}
		}
		for q := range all.points {
			if q == p || q == side {
				continue
			}
			if turn := all.turn(p, side, q); turn < 0 || turn == 0 && (q < p) != (side < p) {
				return false
			}
		}
		return true
	})
}

// rightOf: is a round right, by layer 10's words: has each line from a point to
// the next one all others to its left, and is the first one the least? Of some
// hundreds.
func rightOf(h []api.Point) bool {
	all := planeOf(h)
	if len(all.points) != len(h) || len(h) > 0 && h[0] != all.points[0] {
		return false
	}
	var places []int
	for _, p := range h {
		place := slices.Index(all.points, p)
		if place < 0 {
			return false
		}
		places = append(places, place)
	}
	for i, p := range places {
		for k := 2; k < len(h); k++ {
			if all.turn(p, places[(i+1)%len(h)], places[(i+k)%len(h)]) <= 0 {
				return false
			}
		}
	}
	return true
}
