package filter_test

import (
	"math"
	"math/big"
	"slices"
	"testing"

	"outrigger/api"
	"outrigger/filter"
)

const (
	greatest  = math.MaxFloat64
	least     = math.SmallestNonzeroFloat64
	leastHigh = 0x1p-1022 // the least normal float
	infinite  = uint64(2047) << 52
	signBit   = uint64(1) << 63
)

// noughtBelow: 0 below 0.
var noughtBelow = math.Copysign(0, -1)

// three points, in the order in which Turn takes them.
type three [3]api.Point

// two points, in the order in which Far takes them.
type two [2]api.Point

func at(x, y float64) api.Point {
	return api.Point{X: math.Float64bits(x), Y: math.Float64bits(y)}
}

// over and under: one float beside.
func over(x float64) float64  { return math.Nextafter(x, math.Inf(1)) }
func under(x float64) float64 { return math.Nextafter(x, math.Inf(-1)) }

// seen: the coordinates, for a remark.
func seen(points ...api.Point) (list []float64) {
	for _, p := range points {
		list = append(list, math.Float64frombits(p.X), math.Float64frombits(p.Y))
	}
	return list
}

// The steps that the document reckons by, and in which a slip would be to be
// seen. A product is a step where the difference of both takes it, and one
// more where the sum does, since it could be fused with either.
const (
	axcx = iota
	bycy
	aycy
	bxcx
	leftInD
	rightInD
	leftInS
	rightInS
	inS
	xx
	yy
	inFar
)

// A way in which what a step comes to becomes a float: none, if that is infinite.
type rounds func(x *big.Float) *big.Float

// A slip: the steps that aren't rounded as the document says, and how they are.
type slip struct {
	steps []int
	how   rounds
}

// exactly: so many bits that no sum and no product of ours is rounded.
func exactly() *big.Float { return new(big.Float).SetPrec(1 << 13) }

// nearest: to the nearest float, to the even one where two are.
func nearest(x *big.Float) *big.Float {
	f, _ := x.Float64()
	if math.IsInf(f, 0) {
		return nil
	}
	return exactly().SetFloat64(f)
}

// never: not rounded at all, as in a fused step.
func never(x *big.Float) *big.Float { return x }

// by: rounded in another way (of normal floats alone).
func by(mode big.RoundingMode) rounds {
	return func(x *big.Float) *big.Float {
		return exactly().Set(new(big.Float).SetPrec(53).SetMode(mode).Set(x))
	}
}

// does is a sum, a difference or a product.
type does func(z, x, y *big.Float) *big.Float

// of reckons one step; what is infinite, or no number, remains so.
func (s slip) of(step int, do does, x, y *big.Float) *big.Float {
	if x == nil || y == nil {
		return nil
	}
	z := do(exactly(), x, y)
	if slices.Contains(s.steps, step) {
		return s.how(z)
	}
	return nearest(z)
}

// number: what bits are, by the document's words (layer 5).
func number(b uint64) *big.Float {
	e, f := int(b>>52&2047), b&(1<<52-1)
	switch {
	case e == 2047:
		return nil
	case e == 0:
		e = 1
	default:
		f |= 1 << 52
	}
	x := exactly().SetUint64(f)
	if b&signBit != 0 {
		x.Neg(x)
	}
	return x.SetMantExp(x, e-1075)
}

func size(x *big.Float) *big.Float {
	if x == nil {
		return nil
	}
	return exactly().Abs(x)
}

// power: 2^n.
func power(n int) *big.Float { return exactly().SetMantExp(big.NewFloat(1), n) }

// turn: what Turn answers, by the document's words, but for a slip.
func (s slip) turn(p three) (int, bool) {
	a, b, c := p[0], p[1], p[2]
	less := func(step int, x, y uint64) *big.Float {
		return s.of(step, (*big.Float).Sub, number(x), number(y))
	}
	ax, by := less(axcx, a.X, c.X), less(bycy, b.Y, c.Y)
	ay, bx := less(aycy, a.Y, c.Y), less(bxcx, b.X, c.X)
	left := s.of(leftInD, (*big.Float).Mul, ax, by)
	right := s.of(rightInD, (*big.Float).Mul, ay, bx)
	// No slip of the difference alone could be seen: where it is as small as
	// the bound, both products are so near that it needs no rounding.
	d := slip{}.of(-1, (*big.Float).Sub, left, right)
	left = s.of(leftInS, (*big.Float).Mul, ax, by)
	right = s.of(rightInS, (*big.Float).Mul, ay, bx)
	sum := s.of(inS, (*big.Float).Add, size(left), size(right))
	if d == nil || sum == nil || sum.Cmp(power(-900)) < 0 || size(d).Cmp(exactly().Mul(sum, power(-50))) < 0 {
		return 0, false
	}
	return d.Sign(), true
}

// far: what Far answers, by the document's words, but for a slip.
func (s slip) far(p two) (float64, bool) {
	dx := s.of(axcx, (*big.Float).Sub, number(p[0].X), number(p[1].X))
	dy := s.of(aycy, (*big.Float).Sub, number(p[0].Y), number(p[1].Y))
	sum := s.of(inFar, (*big.Float).Add, s.of(xx, (*big.Float).Mul, dx, dx), s.of(yy, (*big.Float).Mul, dy, dy))
	if sum == nil || sum.Cmp(power(-900)) < 0 {
		return 0, false
	}
	f, _ := sum.Float64()
	return f, true
}

// product: (p - q)(t - u), exactly.
func product(p, q, t, u uint64) *big.Float {
	x, y := exactly().Sub(number(p), number(q)), exactly().Sub(number(t), number(u))
	return exactly().Mul(x, y)
}

// checkTurn holds Turn against the document's words, and, where it is sure, against the exact turn.
func checkTurn(t *testing.T, p three) {
	t.Helper()
	turn, sure := filter.Turn(p[0], p[1], p[2])
	if want, may := (slip{}).turn(p); turn != want || sure != may {
		t.Errorf("P7.1: Turn of %v: %v %v, not %v %v", seen(p[:]...), turn, sure, want, may)
	}
	if !sure {
		return
	}
	a, b, c := p[0], p[1], p[2]
	left, right := product(a.X, c.X, b.Y, c.Y), product(a.Y, c.Y, b.X, c.X)
	if left.Cmp(right) != turn {
		t.Errorf("P7.3: Turn of %v: %v, which it isn't", seen(p[:]...), turn)
	}
}

// checkFar holds Far against the document's words, and, where it is sure, against the exact square.
func checkFar(t *testing.T, p two) {
	t.Helper()
	far, sure := filter.Far(p[0], p[1])
	if want, may := (slip{}).far(p); math.Float64bits(far) != math.Float64bits(want) || sure != may {
		t.Errorf("P7.2: Far of %v: %v %v, not %v %v", seen(p[:]...), far, sure, want, may)
	}
	if !sure {
		return
	}
	a, b := p[0], p[1]
	square := exactly().Add(product(a.X, b.X, a.X, b.X), product(a.Y, b.Y, a.Y, b.Y))
	off := exactly().Sub(exactly().SetFloat64(far), square)
	if off.Abs(off).Cmp(square.Mul(square, power(-50))) > 0 {
		t.Errorf("P7.3: Far of %v: %v, which is too far beside", seen(p[:]...), far)
	}
}

// swapped: x for y.
func swapped(p api.Point) api.Point { return api.Point{X: p.Y, Y: p.X} }

// mirrored: x with the other sign.
func mirrored(p api.Point) api.Point { return api.Point{X: p.X ^ signBit, Y: p.Y} }

// images: the same points in other places, so that what one step meets, each
// of its like meets, too, above 0 and below.
func (p three) images() []three {
	list := []three{p, {swapped(p[0]), swapped(p[1]), swapped(p[2])}}
	for _, q := range list {
		list = append(list, three{q[1], q[0], q[2]})
	}
	for _, q := range list {
		list = append(list, three{mirrored(q[0]), mirrored(q[1]), mirrored(q[2])})
	}
	return list
}

func (p two) images() []two {
	list := []two{p, {swapped(p[0]), swapped(p[1])}}
	for _, q := range list {
		list = append(list, two{mirrored(q[0]), mirrored(q[1])})
	}
	return list
}

func TestTurn(t *testing.T) {
	for _, c := range []struct {
		p    three
		turn int
		sure bool
	}{
		{three{at(0, 0), at(1, 0), at(0, 1)}, 1, true}, {three{at(1, 0), at(0, 1), at(0, 0)}, 1, true}, {three{at(0, 1), at(0, 0), at(1, 0)}, 1, true}, {three{at(0, 0), at(0, 1), at(1, 0)}, -1, true}, {three{at(0, 0), at(3, 1), at(1, 3)}, 1, true}, {three{at(-5, 7), at(2, -4), at(-100, 3)}, -1, true},
		{three{at(0, 0), at(1, 1), at(2, 2)}, 0, false}, {three{at(-1, 2), at(0, 0), at(2, -4)}, 0, false}, {three{at(7, 0), at(-3, 0), at(5, 0)}, 0, false}, {three{at(2, 1), at(2, 8), at(2, -9)}, 0, false},
		{three{at(1e100, 0), at(0, 1e100), at(-1e100, -1)}, 1, true}, {three{at(1e-100, 0), at(0, -1e-100), at(-1e-100, 1e-101)}, -1, true}, {three{at(-1e150, 3), at(1e-150, -2), at(4, 1e120)}, 1, true}, {three{at(1e-130, 2e-130), at(1e130, -1e130), at(3, 5)}, 1, true}, {three{at(0.1, 0.1), at(0.2, 0.2), at(0.3, 0.3)}, 0, false}, {three{at(1e15, 1e15), at(-1e15, -1e15), at(1, 1.125)}, 0, false}, {three{at(1e15, 1e15), at(-1e15, -1e15), at(1, 0)}, 1, true}, {three{at(1e15, 1e15), at(-1e15, -1e15), at(1, 9)}, -1, true},
	} {
		if turn, sure := filter.Turn(c.p[0], c.p[1], c.p[2]); turn != c.turn || sure != c.sure {
			t.Errorf("P7.1: Turn of %v: %v %v", seen(c.p[:]...), turn, sure)
		}
		for _, q := range c.p.images() {
			checkTurn(t, q)
		}
	}
}

// crossing: points of which l and r are the two products.
func crossing(l, r float64) three { return three{at(l, 1), at(r, 1), at(0, 0)} }

// Points of which two are alike, or all three.
func TestTurnOfAlike(t *testing.T) {
	list := []api.Point{at(0, 0), at(1, 1), at(-3, 0.1), at(1e100, -7), at(greatest, -greatest), at(least, leastHigh), at(noughtBelow, 5), at(0x1p-450, 0x1p-450)}
	for _, p := range list {
		for _, q := range list {
			for _, c := range []three{{p, p, q}, {p, q, p}, {q, p, p}} {
				if turn, sure := filter.Turn(c[0], c[1], c[2]); turn != 0 || sure {
					t.Errorf("P7.1: Turn of %v: %v %v", seen(c[:]...), turn, sure)
				}
				checkTurn(t, c)
			}
		}
	}
}

// The bounds of what is sure, and one float to either side of them.
func TestTurnBounds(t *testing.T) {
	const ten = 10 * 0x1p50 // with products that are 10 beside, and a sum of 10 * 2^50, d is just s * 2^-50
	const tiny = 0x1p-900
	for _, c := range []struct {
		p    three
		turn int
		sure bool
	}{
		{three{at(0, 0), at(1, 1), at(0.5, 0.5+0x1p-51)}, 1, true}, {three{at(0, 0), at(1, 1), at(0.5, under(0.5+0x1p-51))}, 0, false}, {three{at(0, 0), at(1, 1), at(0.5, 0.5-0x1p-51)}, -1, true}, {three{at(0, 0), at(1, 1), at(0.5, over(0.5-0x1p-51))}, 0, false}, {three{at(0, 0), at(1, 1), at(0.5, over(0.5))}, 0, false},
		{crossing(ten/2+5, ten/2-5), 1, true}, {crossing(ten/2-5, ten/2+5), -1, true}, {crossing(ten/2+6, ten/2-4), 0, false}, {crossing(ten/2+4, ten/2-6), 1, true}, {crossing(ten/2+4, ten/2-5), 0, false}, {crossing(ten/2+6, ten/2-5), 1, true}, {crossing(-ten/2-6, -ten/2+4), 0, false}, {crossing(-ten/2-5, -ten/2+5), -1, true}, {crossing(-ten/2-4, -ten/2+6), -1, true},
		{crossing(tiny, 0), 1, true}, {crossing(-tiny, noughtBelow), -1, true}, {crossing(under(tiny), 0), 0, false}, {crossing(over(tiny), 0), 1, true}, {crossing(0, tiny), -1, true}, {crossing(0, under(tiny)), 0, false}, {crossing(0, over(tiny)), -1, true}, {crossing(tiny/2, -tiny/2), 1, true}, {crossing(tiny/2, -under(tiny/2)), 1, true}, {crossing(under(tiny/2), -under(tiny/2)), 0, false},
		// 2^-900 is the even one of the two floats that this sum lies in the middle of.
		{crossing(under(tiny), -0x1p-954), 1, true}, {crossing(under(tiny), -under(0x1p-954)), 0, false}, {crossing(under(tiny), -least), 0, false}, {crossing(-0x1p-954, under(tiny)), -1, true},
	} {
		if turn, sure := filter.Turn(c.p[0], c.p[1], c.p[2]); turn != c.turn || sure != c.sure {
			t.Errorf("P7.1: Turn of %v: %v %v", seen(c.p[:]...), turn, sure)
		}
		for _, q := range c.p.images() {
			checkTurn(t, q)
		}
	}
}

// What comes to an infinite float, to 0, or to less than a normal float; 0
// below 0; the greatest floats and the least ones.
func TestTurnEnds(t *testing.T) {
	for _, c := range []struct {
		p    three
		turn int
		sure bool
	}{
		{three{at(greatest, 0), at(0, 1), at(-greatest, 0)}, 0, false}, {three{at(greatest, 1), at(1, greatest), at(-greatest, 1)}, 0, false}, {three{at(0, 0), at(greatest, 0), at(-greatest, 1)}, 0, false}, {three{at(0x1p1023, 0), at(0, 1), at(-0x1p1023, 0)}, 0, false}, {three{at(under(0x1p1023), 0), at(0, 0.5), at(-0x1p1023, 0)}, 0, false}, {three{at(under(under(0x1p1023)), 0), at(0, 0.5), at(-0x1p1023, 0)}, 1, true}, {three{at(greatest, 0), at(0, 1), at(-0x1p970, 0)}, 0, false}, {three{at(greatest, 0), at(0, 1), at(-under(0x1p970), 0)}, 1, true},
		{three{at(1e200, 0), at(0, 1e200), at(0, 0)}, 0, false}, {three{at(0, -1e200), at(1e200, 0), at(0, 0)}, 0, false}, {three{at(1e200, 1e200), at(1e200, -1e200), at(0, 0)}, 0, false}, {three{at(0x1p512, 0), at(0, 0x1p512), at(0, 0)}, 0, false}, {three{at(0x1p512, 0), at(0, under(0x1p512)), at(0, 0)}, 1, true}, {three{at(1e200, 1), at(1, 1e200), at(0, 0)}, 0, false},
		{crossing(greatest, 0), 1, true}, {crossing(0, greatest), -1, true}, {crossing(greatest, -greatest), 0, false}, {crossing(greatest, greatest), 0, false}, {crossing(greatest, greatest/2), 0, false}, {crossing(0x1p1023, -0x1p1023), 0, false}, {crossing(0x1p1023, -under(0x1p1023)), 0, false}, {crossing(0x1p1023, -under(under(0x1p1023))), 1, true}, {crossing(greatest, -0x1p970), 0, false}, {crossing(greatest, 0x1p970), 0, false}, {crossing(greatest, -under(0x1p970)), 1, true}, {crossing(greatest, under(0x1p970)), 1, true}, {crossing(greatest, least), 1, true}, {crossing(-greatest, least), -1, true},
		{three{at(0x1p-600, 1), at(1, 0x1p-600), at(0, 0)}, -1, true}, {three{at(1, 0x1p-600), at(-0x1p-600, 1), at(0, 0)}, 1, true}, {three{at(0x1p-600, 0x1p-600), at(0x1p-600, -0x1p-600), at(0, 0)}, 0, false}, {three{at(least, 1), at(1, least), at(0, 0)}, -1, true}, {three{at(least, 0), at(0, least), at(0, 0)}, 0, false}, {three{at(greatest, 0), at(0, least), at(0, 0)}, 1, true}, {three{at(greatest, least), at(greatest, -least), at(0, 0)}, -1, true}, {three{at(greatest, least), at(under(greatest), least), at(0, 0)}, 0, false},
		{three{at(0x1p-520, 1), at(1, 0x1p-520), at(0, 0)}, -1, true}, {three{at(0x1p-520, 0), at(0, 0x1p-520), at(0, 0)}, 0, false}, {three{at(leastHigh, 1), at(-1, 0.5), at(0, 0)}, 1, true}, {three{at(0x1p-537, 1), at(0x1p-900, 0x1p-538), at(0, 0)}, -1, true}, {three{at(0x1p-537, 1), at(under(0x1p-900), 0x1p-538), at(0, 0)}, 0, false},
		{three{at(noughtBelow, noughtBelow), at(1, noughtBelow), at(noughtBelow, 1)}, 1, true}, {three{at(noughtBelow, 0), at(0, 1), at(1, noughtBelow)}, -1, true}, {three{at(noughtBelow, 0), at(0, noughtBelow), at(noughtBelow, noughtBelow)}, 0, false}, {crossing(noughtBelow, 0), 0, false}, {crossing(5, noughtBelow), 1, true}, {crossing(noughtBelow, 5), -1, true},
	} {
		if turn, sure := filter.Turn(c.p[0], c.p[1], c.p[2]); turn != c.turn || sure != c.sure {
			t.Errorf("P7.1: Turn of %v: %v %v", seen(c.p[:]...), turn, sure)
		}
		for _, q := range c.p.images() {
			checkTurn(t, q)
		}
	}
}

// middleDifferences: points near the bound, of which one difference lies in the middle of two floats.
func middleDifferences() (list []three) {
	for i := range 4 {
		for j := range 4 {
			for k := i - 12; k < i+12; k++ {
				i, j, k := float64(i), float64(j), float64(k)
				list = append(list, three{at(0x1p52+i, 2*j+.5), at(0x1p51+k/2, j), at(-.5, -.5)})
			}
		}
	}
	return list
}

// nearBound: a product of q and another float, of about n * 2^49, and one
// beside it that need not be rounded: both about n beside one another, so that
// roundings of the products, and of the sum, tell what is sure.
func nearBound(q, n float64) (list []three) {
	middle := n * 0x1p49
	step := over(middle/q) - middle/q
	for i := -12.; i <= 12; i++ {
		for k := -8.; k <= 8; k++ {
			apart := math.Abs(q*i*step - k)
			if math.Abs(apart-n) <= 2 {
				list = append(list, three{at(q, 1), at(middle+k, middle/q+i*step), at(0, 0)})
			}
		}
	}
	return list
}

// middleProducts: points near the bound, of which a product, or the sum of both, lies in the middle of two floats, or between them.
func middleProducts() (list []three) {
	for _, q := range []float64{1, 1.5, 3, 5} {
		for n := 8.; n < 16; n++ {
			list = append(list, nearBound(q, n)...)
		}
	}
	return list
}

// slips: each way of rounding, in each of these steps by itself.
func slips(steps []int, ways ...rounds) (list []slip) {
	for _, step := range steps {
		for _, how := range ways {
			list = append(list, slip{[]int{step}, how})
		}
	}
	return list
}

// Roundings in the middle of two floats, and others near the bound: none of
// the slips would remain unseen.
func TestTurnRoundings(t *testing.T) {
	up, down, zero, away := by(big.ToPositiveInf), by(big.ToNegativeInf), by(big.ToZero), by(big.ToNearestAway)
	missed := slices.Concat(
		slips([]int{axcx, bycy, aycy, bxcx, leftInD, rightInD}, never, up, down, zero, away),
		slips([]int{leftInS, rightInS}, never, up, down),
		slips([]int{inS}, never, up, away), // what a lesser sum does is nothing
		[]slip{{[]int{leftInD, rightInD}, never}, {[]int{leftInD, leftInS}, never}, {[]int{rightInD, rightInS}, never}, {[]int{leftInS, inS}, never}, {[]int{rightInS, inS}, never}},
	)
	for _, p := range slices.Concat(middleDifferences(), middleProducts()) {
		for _, q := range p.images() {
			checkTurn(t, q)
			turn, sure := filter.Turn(q[0], q[1], q[2])
			missed = slices.DeleteFunc(missed, func(s slip) bool {
				other, may := s.turn(q)
				return other != turn || may != sure
			})
		}
	}
	for _, s := range missed {
		t.Errorf("P7.1: slips of the steps %v remain unseen", s.steps)
	}
}

// coordinates: floats near one another and far apart, small and great.
func coordinates() (list []float64) {
	list = []float64{0, least, leastHigh, under(leastHigh), 0x1p-600, 0x1p-537, 0x1p-450, 0x1p-449, 1e-100, 0.1, 0.5, under(1), 1, over(1), over(over(1)), 1.5, 3, 10, 0x1p26 + 1, 0x1p52, 0x1p53 - 1, 1e100, 1e150, 0x1p511, 0x1p970, 1e300, 0x1p1023, greatest}
	for _, x := range list {
		list = append(list, -x)
	}
	return list
}

// A mixer gives numbers that are the same in each run, their bits well mixed.
type mixer uint64

func (m *mixer) below(n int) int {
	*m = *m*6364136223846793005 + 1442695040888963407
	return int(uint64(*m) >> 33 % uint64(n))
}

// points: n of them, of coordinates of all sizes.
func points(n int) (list []api.Point) {
	var m mixer
	some := coordinates()
	for range n {
		list = append(list, at(some[m.below(len(some))], some[m.below(len(some))]))
	}
	return list
}

// near: n points, all within a few floats of one line from (1, 1) on.
func near(n int) (list []api.Point) {
	var m mixer
	for range n {
		x := 1 + float64(m.below(1<<20))*0x1p-20
		list = append(list, at(x+float64(m.below(12))*0x1p-52, x+float64(m.below(12))*0x1p-52))
	}
	return list
}

func TestTurnOfMany(t *testing.T) {
	for _, list := range [][]api.Point{points(12000), near(9000)} {
		sure, unsure := 0, 0
		for i := 0; i+2 < len(list); i += 3 {
			checkTurn(t, three(list[i:i+3]))
			if _, is := filter.Turn(list[i], list[i+1], list[i+2]); is {
				sure++
			} else {
				unsure++
			}
		}
		if sure < 300 || unsure < 300 {
			t.Errorf("P7.1: %v are sure, and %v aren't: too few to tell", sure, unsure)
		}
	}
}

// none: bits that are no finite float's.
func none() []uint64 {
	list := []uint64{infinite, infinite + 1, infinite | 12345, infinite | 1<<51, infinite | 1<<51 | 1, signBit - 1}
	for _, b := range list {
		list = append(list, b|signBit)
	}
	return list
}

// spoilt: p with bits in the places that are marked, x of the first point being place 0, y of it 1.
func spoilt(p []api.Point, marks int, bits ...uint64) []api.Point {
	p = slices.Clone(p)
	for i, used := 0, 0; i < 2*len(p); i++ {
		if marks>>i&1 == 0 {
			continue
		}
		b := bits[used%len(bits)]
		used++
		if i%2 == 0 {
			p[i/2].X = b
		} else {
			p[i/2].Y = b
		}
	}
	return p
}

func TestTurnRefuses(t *testing.T) {
	for _, p := range []three{{at(0, 0), at(1, 0), at(0, 1)}, {at(0, 1), at(1, 0), at(0, 0)}, {at(5, 1), at(1, 7), at(-2, 3)}, {at(1, 1), at(1, 1), at(1, 1)}, {at(0, 0), at(0, 0), at(0, 0)}, {at(greatest, -greatest), at(least, 1), at(noughtBelow, 1)}} {
		for marks := 1; marks < 1<<6; marks++ {
			for _, first := range none() {
				for _, second := range none() {
					q := three(spoilt(p[:], marks, first, second))
					if turn, sure := filter.Turn(q[0], q[1], q[2]); turn != 0 || sure {
						t.Errorf("P7.1: Turn of %v: %v %v", seen(q[:]...), turn, sure)
					}
				}
			}
		}
	}
}

func TestFar(t *testing.T) {
	for _, c := range []struct {
		p    two
		far  float64
		sure bool
	}{
		{two{at(0, 0), at(3, 4)}, 25, true}, {two{at(3, 4), at(0, 0)}, 25, true}, {two{at(-1, 2), at(4, -10)}, 169, true}, {two{at(0, 0), at(0, -7)}, 49, true}, {two{at(0.5, 0), at(-0.5, 0)}, 1, true}, {two{at(1e100, 1), at(-1e100, 2)}, 4e200, true}, {two{at(0x1p-300, 0), at(0, 0x1p-300)}, 0x1p-599, true}, {two{at(0x1p200, 1), at(0, 2)}, 0x1p400, true}, {two{at(1, 1), at(1, over(1))}, 0x1p-104, true}, {two{at(0.3, 0), at(0, 0)}, 0.09, true}, {two{at(0.1, 0.1), at(0, 0)}, 0.020000000000000004, true},
		{two{at(1, 1), at(1, 1)}, 0, false}, {two{at(0, 0), at(0, 0)}, 0, false}, {two{at(greatest, -greatest), at(greatest, -greatest)}, 0, false}, {two{at(least, 0.1), at(least, 0.1)}, 0, false}, {two{at(noughtBelow, 0), at(0, noughtBelow)}, 0, false}, {two{at(noughtBelow, 2), at(0, noughtBelow)}, 4, true}, {two{at(noughtBelow, noughtBelow), at(3, -4)}, 25, true},
	} {
		if far, sure := filter.Far(c.p[0], c.p[1]); far != c.far || math.Signbit(far) || sure != c.sure {
			t.Errorf("P7.2: Far of %v: %v %v", seen(c.p[:]...), far, sure)
		}
		for _, q := range c.p.images() {
			checkFar(t, q)
		}
	}
}

// The bounds of what is sure, and one float to either side of them; what comes
// to an infinite float, to 0, or to less than a normal float.
func TestFarEdges(t *testing.T) {
	const tiny = 0x1p-900
	for _, c := range []struct {
		p    two
		far  float64
		sure bool
	}{
		{two{at(0x1p-450, 0), at(0, 0)}, tiny, true}, {two{at(0x1p-450, 0x1p-476), at(0, 0)}, over(tiny), true}, {two{at(under(0x1p-450), 0x1.6a09e667f3bcdp-477), at(0, 0)}, 0, false}, {two{at(under(0x1p-450), 0x1p-476), at(0, 0)}, tiny, true}, {two{at(under(0x1p-450), 0), at(0, 0)}, 0, false}, {two{at(over(0x1p-450), 0), at(0, 0)}, over(over(tiny)), true}, {two{at(0x1p-450, least), at(0, 0)}, tiny, true}, {two{at(0x1p-450, 0x1p-477), at(0, 0)}, tiny, true}, {two{at(0x1p-450, 0x1.6a09e667f3bcdp-477), at(0, 0)}, over(tiny), true}, {two{at(0x1p-450, 0x1.6a09e667f3bccp-477), at(0, 0)}, tiny, true},
		{two{at(greatest, 0), at(-greatest, 0)}, 0, false}, {two{at(0x1p1023, 0), at(-0x1p1023, 0)}, 0, false}, {two{at(greatest, 0), at(0, 0)}, 0, false}, {two{at(greatest, 1), at(greatest, 0)}, 1, true}, {two{at(greatest, 0), at(under(greatest), 0)}, 0, false}, {two{at(0x1p512, 0), at(0, 0)}, 0, false}, {two{at(under(0x1p512), 0), at(0, 0)}, under(under(0x1p1023)) * 2, true},
		{two{at(0x1.6a09e667f3bcdp511, 0x1.6a09e667f3bcdp511), at(0, 0)}, 0, false}, {two{at(0x1.6a09e667f3bccp511, 0x1.6a09e667f3bccp511), at(0, 0)}, 0x1.ffffffffffffep1023, true}, {two{at(0x1.6a09e667f3bcdp511, 0), at(0, 0)}, 0x1.0000000000001p1023, true},
		{two{at(0x1p-600, 1), at(0, 0)}, 1, true}, {two{at(least, 1), at(0, 0)}, 1, true}, {two{at(0x1p-530, 1), at(0, 0)}, 1, true}, {two{at(least, 0), at(0, 0)}, 0, false}, {two{at(least, least), at(-least, 0)}, 0, false}, {two{at(0x1p-600, 0x1p-600), at(0, 0)}, 0, false}, {two{at(0x1p-520, 0x1p-520), at(0, 0)}, 0, false}, {two{at(leastHigh, 0), at(0, 2)}, 4, true}, {two{at(greatest, 3), at(greatest, least)}, 9, true},
	} {
		if far, sure := filter.Far(c.p[0], c.p[1]); far != c.far || math.Signbit(far) || sure != c.sure {
			t.Errorf("P7.2: Far of %v: %b %v", seen(c.p[:]...), far, sure)
		}
		for _, q := range c.p.images() {
			checkFar(t, q)
		}
	}
}

// Roundings in the middle of two floats, and others: none of the slips would remain unseen.
func TestFarRoundings(t *testing.T) {
	up, zero, away := by(big.ToPositiveInf), by(big.ToZero), by(big.ToNearestAway)
	missed := slices.Concat(
		slips([]int{axcx, aycy, xx, yy}, never, up, zero, away),
		slips([]int{inFar}, up, zero, away), // it is what is answered, so that it is rounded in any case
		[]slip{{[]int{xx, yy}, never}},
	)
	var list []two
	for i := range 8 {
		for k := range 8 {
			i, k := float64(i), float64(k)
			list = append(list, two{at(0x1p52+i, k), at(-.5, -.5)}, two{at(0x1p52+i, 0x1p51+k/2), at(-.5, 0)}, two{at(0x1p26+i, k), at(0, 0)}, two{at(0x1p27+i, 0x1p27+k), at(0, 0)}, two{at(1+i*0x1p-26, 1+k*0x1p-27), at(0, 0)}, two{at(1+i*0x1p-30, k*0x1p-27), at(-1, 0)}, two{at(0x1p27-2*i-1, k*0x1p26), at(0, 0)}, two{at(1+i*0.1, k*0.3), at(0, 0)})
		}
	}
	for _, p := range list {
		for _, q := range p.images() {
			checkFar(t, q)
			far, sure := filter.Far(q[0], q[1])
			missed = slices.DeleteFunc(missed, func(s slip) bool {
				other, may := s.far(q)
				return other != far || may != sure
			})
		}
	}
	for _, s := range missed {
		t.Errorf("P7.2: slips of the steps %v remain unseen", s.steps)
	}
}

func TestFarOfMany(t *testing.T) {
	for _, list := range [][]api.Point{points(12000), near(9000)} {
		for i := 0; i+1 < len(list); i += 2 {
			checkFar(t, two(list[i:i+2]))
		}
	}
}

func TestFarRefuses(t *testing.T) {
	for _, p := range []two{{at(0, 0), at(3, 4)}, {at(1, 1), at(1, 1)}, {at(0, 0), at(0, 0)}, {at(greatest, -greatest), at(least, noughtBelow)}} {
		for marks := 1; marks < 1<<4; marks++ {
			for _, first := range none() {
				for _, second := range none() {
					q := two(spoilt(p[:], marks, first, second))
					if far, sure := filter.Far(q[0], q[1]); far != 0 || sure {
						t.Errorf("P7.2: Far of %v: %v %v", seen(q[:]...), far, sure)
					}
				}
			}
		}
	}
}
