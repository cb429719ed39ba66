package exact_test

import (
	"cmp"
	"errors"
	"fmt"
	"math"
	"math/big"
	"slices"
	"testing"

	"outrigger/api"
	"outrigger/exact"
	"outrigger/filter"
	"outrigger/whole"
)

const (
	greatest  = math.MaxFloat64
	least     = math.SmallestNonzeroFloat64
	leastHigh = 0x1p-1022 // the least normal float
	infinite  = uint64(2047) << 52
	signBit   = uint64(1) << 63
)

// noughtBelow: 0 below 0.
var noughtBelow = math.Copysign(0, -1)

func at(x, y float64) api.Point {
	return api.Point{X: math.Float64bits(x), Y: math.Float64bits(y)}
}

// over and under: one float beside.
func over(x float64) float64  { return math.Nextafter(x, math.Inf(1)) }
func under(x float64) float64 { return math.Nextafter(x, math.Inf(-1)) }

// seen: the coordinates, for a remark.
func seen(points ...api.Point) string {
	text := ""
	for _, p := range points {
		text += fmt.Sprintf("(%x, %x) ", math.Float64frombits(p.X), math.Float64frombits(p.Y))
	}
	return text
}

// swapped: x for y. mirrored: x with the other sign.
func swapped(p api.Point) api.Point  { return api.Point{X: p.Y, Y: p.X} }
func mirrored(p api.Point) api.Point { return api.Point{X: p.X ^ signBit, Y: p.Y} }

// times: both coordinates so often; by a power of two that loses nothing.
func times(p api.Point, n float64) api.Point {
	return at(math.Float64frombits(p.X)*n, math.Float64frombits(p.Y)*n)
}

// number: the number that finite bits are, times 2^1074, which makes it
// whole; by the document's words (layer 5).
func number(b uint64) *big.Int {
	e, f := b>>52&2047, b&(1<<52-1)
	if e > 0 {
		f |= 1 << 52
		e--
	}
	x := new(big.Int).SetUint64(f)
	x.Lsh(x, uint(e))
	if b&signBit != 0 {
		x.Neg(x)
	}
	return x
}

// product: (p - q)(t - u), times 2^2148.
func product(p, q, t, u uint64) *big.Int {
	x, y := new(big.Int).Sub(number(p), number(q)), new(big.Int).Sub(number(t), number(u))
	return x.Mul(x, y)
}

// turnOf: the turn, by layer 7's words.
func turnOf(a, b, c api.Point) int {
	return product(a.X, c.X, b.Y, c.Y).Cmp(product(a.Y, c.Y, b.X, c.X))
}

// areaOf and squareOf: what Area and Square tell, times 2^2148.
func areaOf(a, b, c api.Point) *big.Int {
	left := product(b.X, a.X, c.Y, a.Y)
	return left.Sub(left, product(b.Y, a.Y, c.X, a.X))
}

func squareOf(a, b api.Point) *big.Int {
	sum := product(a.X, b.X, a.X, b.X)
	return sum.Add(sum, product(a.Y, b.Y, a.Y, b.Y))
}

// plain: the plain dyadic that a number times 2^-2148 is (layer 6).
func plain(m *big.Int) api.Dyadic {
	if m.Sign() == 0 {
		return api.Dyadic{}
	}
	twos := int(m.TrailingZeroBits())
	d := api.Dyadic{M: api.Int{Neg: m.Sign() < 0}, E: twos - 2148}
	rest, low := new(big.Int).Abs(m), new(big.Int).SetUint64(math.MaxUint64)
	for rest.Rsh(rest, uint(twos)); rest.Sign() != 0; rest.Rsh(rest, 64) {
		d.M.Mag = append(d.M.Mag, new(big.Int).And(rest, low).Uint64())
	}
	return d
}

// same: field by field, so that what isn't plain is no other number's like.
func same(a, b api.Dyadic) bool {
	return a.E == b.E && a.M.Neg == b.M.Neg && slices.Equal(a.M.Mag, b.M.Mag)
}

// nothing: is it what stands beside an error?
func nothing(d api.Dyadic) bool { return same(d, api.Dyadic{}) }

// faultAt: is it a fault of BadPoint, and nothing else, at that place?
func faultAt(e error, place int) bool {
	var f *api.Fault
	return errors.As(e, &f) && f.At == place && f.Err != nil && f.Err == api.BadPoint
}

// orders: three points in all orders; the first three are by threes round,
// the others the other way round.
func orders(a, b, c api.Point) [6][3]api.Point {
	return [6][3]api.Point{{a, b, c}, {b, c, a}, {c, a, b}, {a, c, b}, {c, b, a}, {b, a, c}}
}

// checkTurns holds Turn and Area, in all orders, against exact reckoning.
func checkTurns(t *testing.T, a, b, c api.Point) {
	t.Helper()
	turn, e := exact.Turn(a, b, c)
	if e != nil || turn != turnOf(a, b, c) {
		t.Errorf("P8.2: Turn of %s: %v %v", seen(a, b, c), turn, e)
	}
	want := plain(areaOf(a, b, c))
	if d, e := exact.Area(a, b, c); e != nil || !same(d, want) {
		t.Errorf("P8.2: Area of %s: %v %v, not %v", seen(a, b, c), d, e, want)
	}
	for i, p := range orders(a, b, c) {
		if i == 3 {
			turn, want = -turn, plain(areaOf(a, c, b))
		}
		if n, e := exact.Turn(p[0], p[1], p[2]); e != nil || n != turn {
			t.Errorf("P8.3: Turn of %s: %v %v, not %v", seen(p[:]...), n, e, turn)
		}
		if d, e := exact.Area(p[0], p[1], p[2]); e != nil || !same(d, want) {
			t.Errorf("P8.3: Area of %s: %v %v, not %v", seen(p[:]...), d, e, want)
		}
	}
}

// checkNears holds Near, with a and b in both orders, against exact reckoning.
func checkNears(t *testing.T, p, a, b api.Point) {
	t.Helper()
	want := squareOf(p, a).Cmp(squareOf(p, b))
	if n, e := exact.Near(p, a, b); e != nil || n != want {
		t.Errorf("P8.2: Near of %s: %v %v, not %v", seen(p, a, b), n, e, want)
	}
	if n, e := exact.Near(p, b, a); e != nil || n != -want {
		t.Errorf("P8.2: Near of %s: %v %v, not %v", seen(p, b, a), n, e, -want)
	}
}

// checkTwo holds Square and Lex, in both orders, and Same against exact reckoning.
func checkTwo(t *testing.T, a, b api.Point) {
	t.Helper()
	square := plain(squareOf(a, b))
	order := cmp.Or(number(a.X).Cmp(number(b.X)), number(a.Y).Cmp(number(b.Y)))
	for _, c := range []struct {
		a, b  api.Point
		order int
	}{{a, b, order}, {b, a, -order}} {
		if d, e := exact.Square(c.a, c.b); e != nil || !same(d, square) {
			t.Errorf("P8.2: Square of %s: %v %v, not %v", seen(c.a, c.b), d, e, square)
		}
		if n, e := exact.Lex(c.a, c.b); e != nil || n != c.order {
			t.Errorf("P8.2: Lex of %s: %v %v, not %v", seen(c.a, c.b), n, e, c.order)
		}
		if exact.Same(c.a, c.b) != (order == 0) {
			t.Errorf("P8.1: Same of %s: %v", seen(c.a, c.b), order != 0)
		}
	}
}

// points: small and great, above 0 and below, of unlike sizes, and at the ends of what floats can tell.
func points() []api.Point {
	return []api.Point{
		at(0, 0), at(noughtBelow, 0), at(0, noughtBelow), at(1, 0), at(0, 1), at(noughtBelow, 1), at(-1, noughtBelow), at(3, 4), at(-3, 4), at(0.1, 0.2), at(0.3, 0.6), at(1, over(1)), at(under(1), 1), at(1, 1), at(-7.5, -1e15), at(1e15, 3),
		at(greatest, greatest), at(-greatest, -greatest), at(greatest, -greatest), at(-greatest, under(greatest)), at(least, 0), at(0, least), at(-least, least), at(least, -2*least), at(leastHigh, under(leastHigh)), at(1e-200, -1e200), at(1e200, 1e-200), at(0x1p-600, 0x1p-520), at(greatest, least), at(-least, greatest),
	}
}

// bads: bits that are none, infinite ones and others, of both signs.
func bads() []uint64 {
	list := []uint64{infinite, infinite | 1, infinite | 1<<51, infinite | (1<<52 - 1), math.Float64bits(math.NaN())}
	for _, b := range list {
		list = append(list, b|signBit)
	}
	return list
}

// badPoints: points with bits that are none as X, as Y, and as both.
func badPoints() (list []api.Point) {
	for _, b := range bads() {
		list = append(list, api.Point{X: b, Y: 0}, api.Point{X: 0, Y: b}, api.Point{X: signBit | 1, Y: b}, api.Point{X: b, Y: infinite})
	}
	return list
}

func TestCheck(t *testing.T) {
	long := slices.Repeat(points(), 700)
	for i, l := range [][]api.Point{nil, {}, points()[:1], points()[1:3], points(), long} {
		if e := exact.Check(l); e != nil {
			t.Errorf("P8.1: Check of list %d: %v", i, e)
		}
	}
	for _, bad := range badPoints() {
		for _, place := range []int{0, 1, 2, 4096, 10001, len(long) - 1} {
			l := slices.Clone(long)
			l[place] = bad
			if e := exact.Check(l); !faultAt(e, place) {
				t.Errorf("P8.1: Check, %s at %d: %v", seen(bad), place, e)
			}
			if e := exact.Check(l[:place+1]); !faultAt(e, place) {
				t.Errorf("P8.1: Check, %s at %d, which is last: %v", seen(bad), place, e)
			}
			l[len(l)-1] = bad
			if e := exact.Check(append(l, bad)); !faultAt(e, place) {
				t.Errorf("P8.1: Check, %s at %d and behind it: %v", seen(bad), place, e)
			}
		}
		if e := exact.Check([]api.Point{bad}); !faultAt(e, 0) {
			t.Errorf("P8.1: Check of %s: %v", seen(bad), e)
		}
		if e := exact.Check(slices.Repeat([]api.Point{bad}, 50)); !faultAt(e, 0) {
			t.Errorf("P8.1: Check of fifty %s: %v", seen(bad), e)
		}
	}
}

// A fault is told as the document says faults are, and what it is at is the caller's to change.
func TestCheckTells(t *testing.T) {
	l := append(points()[:3:3], api.Point{X: infinite, Y: 0})
	e := exact.Check(l)
	var code api.Code
	if e == nil || e.Error() != "3: E1" || !errors.Is(e, api.BadPoint) || !errors.As(e, &code) || code != api.BadPoint {
		t.Errorf("P8.1: Check: %v", e)
	}
	var f *api.Fault
	if errors.As(e, &f) {
		f.At, f.Err = 9, api.Range
	}
	if e := exact.Check(l); !faultAt(e, 3) {
		t.Errorf("P8.1: Check, once more: %v", e)
	}
}

func TestNorm(t *testing.T) {
	for _, c := range []struct{ p, want api.Point }{
		{at(noughtBelow, 0), at(0, 0)}, {at(0, noughtBelow), at(0, 0)}, {at(noughtBelow, noughtBelow), at(0, 0)}, {at(0, 0), at(0, 0)}, {at(noughtBelow, 5), at(0, 5)}, {at(5, noughtBelow), at(5, 0)}, {at(noughtBelow, -3), at(0, -3)}, {at(-least, noughtBelow), at(-least, 0)}, {at(noughtBelow, greatest), at(0, greatest)},
		{api.Point{X: infinite | signBit, Y: signBit}, api.Point{X: infinite | signBit}}, {api.Point{X: signBit, Y: infinite | 77}, api.Point{Y: infinite | 77}},
	} {
		if p := exact.Norm(c.p); p != c.want {
			t.Errorf("P8.1: Norm of %s: %s", seen(c.p), seen(p))
		}
	}
	for _, p := range append(points(), badPoints()...) {
		want := p
		if p.X == signBit {
			want.X = 0
		}
		if p.Y == signBit {
			want.Y = 0
		}
		if got := exact.Norm(p); got != want {
			t.Errorf("P8.1: Norm of %x: %x", p, got)
		}
	}
}

func TestSame(t *testing.T) {
	for _, c := range []struct {
		a, b api.Point
		want bool
	}{
		{at(0, 0), at(noughtBelow, noughtBelow), true}, {at(noughtBelow, 0), at(0, noughtBelow), true}, {at(noughtBelow, 2), at(0, 2), true}, {at(2, noughtBelow), at(2, 0), true}, {at(1, 2), at(1, 2), true}, {at(1, 2), at(2, 1), false}, {at(1, 2), at(1, -2), false}, {at(1, 2), at(-1, 2), false}, {at(1, 2), at(1, over(2)), false}, {at(under(1), 2), at(1, 2), false}, {at(0, least), at(0, -least), false}, {at(least, 0), at(0, 0), false},
		{api.Point{X: infinite, Y: signBit}, api.Point{X: infinite}, true}, {api.Point{X: infinite}, api.Point{X: infinite | signBit}, false}, {api.Point{Y: infinite | 1}, api.Point{Y: infinite | 1}, true}, {api.Point{Y: infinite | 1}, api.Point{Y: infinite | 2}, false},
	} {
		if exact.Same(c.a, c.b) != c.want || exact.Same(c.b, c.a) != c.want {
			t.Errorf("P8.1: Same of %x and %x: %v", c.a, c.b, !c.want)
		}
	}
}

// Each point with each, and with each two, itself too.
func TestAll(t *testing.T) {
	list := points()
	for i, a := range list {
		for k, b := range list {
			checkTwo(t, a, b)
			for _, c := range list[k:] {
				checkNears(t, a, b, c)
				if k >= i {
					checkTurns(t, a, b, c)
				}
			}
		}
	}
}

func TestTurn(t *testing.T) {
	for _, c := range []struct {
		a, b, c api.Point
		turn    int
	}{
		{at(0, 0), at(1, 0), at(0, 1), 1}, {at(0, 0), at(0, 1), at(1, 0), -1}, {at(-5, 7), at(2, -4), at(-100, 3), -1}, {at(0, 0), at(1, 1), at(2, 2), 0}, {at(0, 0), at(3, 3), at(1, 1), 0}, {at(-1, 2), at(0, 0), at(2, -4), 0}, {at(7, 0), at(-3, 0), at(5, 0), 0}, {at(2, 1), at(2, 8), at(2, -9), 0},
		{at(1e100, 0), at(0, 1e100), at(-1e100, -1), 1}, {at(1e-100, 0), at(0, -1e-100), at(-1e-100, 1e-101), -1}, {at(-1e150, 3), at(1e-150, -2), at(4, 1e120), 1}, {at(1e-300, 1e300), at(-1e300, 5), at(1e-5, 1e-300), 1}, {at(0.1, 0.1), at(0.2, 0.2), at(0.3, 0.3), 0}, {at(0.1, 0.3), at(0.2, 0.6), at(0.3, 0.9), 1},
		{at(0, 0), at(1, 1), at(0.5, 0.5+0x1p-53), 1}, {at(0, 0), at(1, 1), at(0.5, 0.5-0x1p-54), -1}, {at(0, 0), at(1, 1), at(0.5+0x1p-53, 0.5), -1},
	} {
		if n, e := exact.Turn(c.a, c.b, c.c); e != nil || n != c.turn {
			t.Errorf("P8.2: Turn of %s: %v %v", seen(c.a, c.b, c.c), n, e)
		}
		checkTurns(t, c.a, c.b, c.c)
		checkTurns(t, swapped(c.a), swapped(c.b), swapped(c.c))
		checkTurns(t, mirrored(c.a), mirrored(c.b), mirrored(c.c))
	}
}

// Of none of these floats are sure: what goes into the turn is infinite as
// floats, or comes to 0 as floats, or to less than the least normal one.
func TestTurnEnds(t *testing.T) {
	for _, c := range []struct {
		a, b, c api.Point
		turn    int
	}{
		{at(greatest, 0), at(0, 1), at(-greatest, 0), 1}, {at(-greatest, -greatest), at(greatest, greatest), at(0, least), 1}, {at(-greatest, -greatest), at(greatest, greatest), at(0, -least), -1}, {at(-greatest, -greatest), at(greatest, greatest), at(0, 0), 0}, {at(-greatest, -greatest), at(greatest, greatest), at(noughtBelow, least), 1}, {at(greatest, 1), at(5, over(1)), at(-greatest, 1), 1}, {at(-greatest, 1), at(greatest, 1), at(5, 1), 0}, {at(-greatest, -greatest), at(greatest, greatest), at(under(greatest), greatest), 1}, {at(greatest, -greatest), at(-greatest, greatest), at(least, least), -1},
		{at(0, 0), at(1e200, 0), at(0, 1e200), 1}, {at(0, 0), at(1e200, 2e200), at(2e200, 4e200), 0}, {at(0, 0), at(1e200, 1e200), at(2e200, over(2e200)), 1}, {at(0, 0), at(1e200, 1e200), at(over(2e200), 2e200), -1}, {at(0x1p512, 0), at(0, 0x1p512), at(0, 0), 1},
		{at(0, 0), at(least, 0), at(0, least), 1}, {at(0, 0), at(0, least), at(least, 0), -1}, {at(least, least), at(2*least, 2*least), at(3*least, 3*least), 0}, {at(least, least), at(2*least, 2*least), at(3*least, 4*least), 1}, {at(0, 0), at(1e-200, 1e-200), at(3e-200, over(3e-200)), 1}, {at(0, 0), at(1e-200, 1e-200), at(3e-200, 3e-200), 0}, {at(0x1p-600, 0x1p-600), at(0x1p-600, -0x1p-600), at(0, 0), -1},
		{at(0x1p-520, 0), at(0, 0x1p-520), at(0, 0), 1}, {at(0x1p-520, 0x1p-530), at(0x1p-530, 0x1p-520), at(0, 0), 1}, {at(0x1p-520, 0x1p-520), at(0x1p-519, 0x1p-519), at(0x1p-530, under(0x1p-530)), -1}, {at(leastHigh, 0), at(0, leastHigh), at(leastHigh, leastHigh), -1}, {at(leastHigh, 0), at(0, leastHigh), at(0, under(leastHigh)), 1},
		{at(noughtBelow, 0), at(0, noughtBelow), at(noughtBelow, noughtBelow), 0}, {at(noughtBelow, noughtBelow), at(1, noughtBelow), at(2, 0), 0}, {at(noughtBelow, 0), at(0, noughtBelow), at(1, 1), 0},
	} {
		if n, e := exact.Turn(c.a, c.b, c.c); e != nil || n != c.turn {
			t.Errorf("P8.2: Turn of %s: %v %v", seen(c.a, c.b, c.c), n, e)
		}
		if _, sure := filter.Turn(c.a, c.b, c.c); sure {
			t.Errorf("P8.2: Turn of %s: floats are sure of it", seen(c.a, c.b, c.c))
		}
		checkTurns(t, c.a, c.b, c.c)
		checkTurns(t, swapped(c.a), swapped(c.b), swapped(c.c))
		checkTurns(t, mirrored(c.a), mirrored(c.b), mirrored(c.c))
	}
}

// A point in a line, and one float beside it on either side, of sizes that
// floats reckon rightly, and of such as they don't.
func TestTurnBesideLine(t *testing.T) {
	beside := func(p api.Point, up func(float64) float64) api.Point {
		return api.Point{X: p.X, Y: math.Float64bits(up(math.Float64frombits(p.Y)))}
	}
	for _, l := range []struct{ a, b, mid api.Point }{
		{at(0, 0), at(1, 1), at(0.5, 0.5)}, {at(-3, -1), at(6, 2), at(3, 1)}, {at(-5, 4), at(7, -4), at(-2, 2)}, {at(-1, 1), at(1, 1.25), at(0.5, 1.1875)}, {at(-64, 1), at(1, 1.25), at(66, 1.5)}, {at(-64, noughtBelow), at(3, 0), at(0.75, 0)},
	} {
		for power := -1000; power <= 1000; power += 40 {
			n := math.Ldexp(1, power)
			a, b, mid := times(l.a, n), times(l.b, n), times(l.mid, n)
			for _, c := range []struct {
				mid  api.Point
				turn int
			}{{mid, 0}, {beside(mid, over), 1}, {beside(mid, under), -1}} {
				if turn, e := exact.Turn(a, b, c.mid); e != nil || turn != c.turn {
					t.Errorf("P8.2: Turn of %s: %v %v, not %v", seen(a, b, c.mid), turn, e, c.turn)
				}
				checkTurns(t, a, b, c.mid)
			}
		}
	}
}

// Two alike, in each two of the places, and all three; 0 below 0 and 0 are alike, too.
func TestAlike(t *testing.T) {
	for _, p := range points() {
		like := []api.Point{p, exact.Norm(p)}
		if p.X == 0 {
			like = append(like, mirrored(p))
		}
		if p.Y == 0 {
			like = append(like, swapped(mirrored(swapped(p))))
		}
		for _, p2 := range like {
			if d, e := exact.Square(p, p2); e != nil || !nothing(d) {
				t.Errorf("P8.2: Square of %s: %v %v", seen(p, p2), d, e)
			}
			if n, e := exact.Lex(p, p2); e != nil || n != 0 || !exact.Same(p, p2) {
				t.Errorf("P8.2: Lex of %s: %v %v", seen(p, p2), n, e)
			}
			for _, q := range append(points(), p) {
				for _, o := range orders(p, p2, q) {
					if n, e := exact.Turn(o[0], o[1], o[2]); e != nil || n != 0 {
						t.Errorf("P8.3: Turn of %s: %v %v", seen(o[:]...), n, e)
					}
					if d, e := exact.Area(o[0], o[1], o[2]); e != nil || !nothing(d) {
						t.Errorf("P8.3: Area of %s: %v %v", seen(o[:]...), d, e)
					}
				}
				if n, e := exact.Near(q, p, p2); e != nil || n != 0 {
					t.Errorf("P8.2: Near of %s: %v %v", seen(q, p, p2), n, e)
				}
				want := -1
				if exact.Same(p, q) {
					want = 0
				}
				if n, e := exact.Near(p, p2, q); e != nil || n != want {
					t.Errorf("P8.2: Near of %s: %v %v", seen(p, p2, q), n, e)
				}
				if n, e := exact.Near(p, q, p2); e != nil || n != -want {
					t.Errorf("P8.2: Near of %s: %v %v", seen(p, q, p2), n, e)
				}
			}
		}
	}
}

func TestLex(t *testing.T) {
	rising := []api.Point{at(-greatest, greatest), at(-1e200, 0), at(-3, -4), at(-3, 7), at(under(-1), greatest), at(-1, 5), at(over(-1), 5), at(-leastHigh, 1), at(-least, 1e200), at(0, -greatest), at(noughtBelow, -1), at(0, -least), at(noughtBelow, 0), at(0, least), at(0, 2*least), at(noughtBelow, 5), at(least, -1e300), at(leastHigh, 0), at(0.1, 0.3), at(0.1, over(0.3)), at(over(0.1), 0.2), at(1, -1), at(1, 0), at(1e200, -1e-200), at(greatest, -greatest), at(greatest, under(greatest)), at(greatest, greatest)}
	for i, a := range rising {
		for k, b := range rising {
			if n, e := exact.Lex(a, b); e != nil || n != cmp.Compare(i, k) {
				t.Errorf("P8.2: Lex of %s: %v %v", seen(a, b), n, e)
			}
			checkTwo(t, a, b)
		}
	}
}

// power: a whole number times a power of two; an odd one is plain.
func power(m int64, exp int) api.Dyadic { return api.Dyadic{M: whole.Of(m), E: exp} }

func TestArea(t *testing.T) {
	for _, c := range []struct {
		a, b, c api.Point
		want    api.Dyadic
	}{
		{at(1, 2), at(4, 2), at(1, 2.5), power(3, -1)}, {at(1, 2), at(1, 2.5), at(4, 2), power(-3, -1)}, {at(0, 0), at(1, 0), at(0, 1), power(1, 0)}, {at(-1, -1), at(2, 0), at(0, 2), power(1, 3)}, {at(1e15, 0), at(1e15, 1), at(1e15-7, 1e15), power(7, 0)},
		{at(0, 0), at(1, 1), at(2, 2), api.Dyadic{}}, {at(-greatest, greatest), at(greatest, -greatest), at(0, noughtBelow), api.Dyadic{}},
		{at(0, 0), at(2, 0), at(0, 2), power(1, 2)}, {at(0, 0), at(0, 12), at(40, 0), power(-15, 5)}, {at(1, 1), at(7, 1), at(1, 9), power(3, 4)}, {at(0.5, 0), at(1, 0.5), at(0.5, 0.5), power(1, -2)}, {at(1, 1), at(3, 5), at(7, 11), power(-1, 2)}, {at(3, 0), at(0, 4), at(1, 4), power(-1, 2)},
		{at(0, 0), at(least, 0), at(0, least), power(1, -2148)}, {at(least, 0), at(0, least), at(-3*least, 0), power(1, -2146)}, {at(0, 0), at(0x1p1023, 0), at(0, 0x1p1023), power(1, 2046)}, {at(-0x1p1023, -0x1p1023), at(0x1p1023, -0x1p1023), at(0x1p1023, 0x1p1023), power(1, 2048)}, {at(0, 0), at(0x1p1023, 0), at(7, least), power(1, -51)},
	} {
		if d, e := exact.Area(c.a, c.b, c.c); e != nil || !same(d, c.want) {
			t.Errorf("P8.2: Area of %s: %v %v", seen(c.a, c.b, c.c), d, e)
		}
		checkTurns(t, c.a, c.b, c.c)
	}
}

func TestSquare(t *testing.T) {
	for _, c := range []struct {
		a, b api.Point
		want api.Dyadic
	}{
		{at(0.5, 0), at(2, 2), power(25, -2)}, {at(0, 0), at(3, 4), power(25, 0)}, {at(-1, 1), at(-6, 13), power(169, 0)}, {at(1, 0), at(0, 0), power(1, 0)}, {at(0, 7), at(0, 4), power(9, 0)}, {at(1e15, -1), at(1e15-1, 1), power(5, 0)},
		{at(5, 5), at(5, 5), api.Dyadic{}}, {at(noughtBelow, 0), at(0, noughtBelow), api.Dyadic{}}, {at(greatest, -least), at(greatest, -least), api.Dyadic{}},
		{at(0, 0), at(2, 2), power(1, 3)}, {at(0, 0), at(6, 2), power(5, 3)}, {at(1, 1), at(3, 1), power(1, 2)}, {at(0.25, 0), at(0, 0.25), power(1, -3)}, {at(0, 0), at(1, 3), power(5, 1)},
		{at(0, 0), at(least, 0), power(1, -2148)}, {at(0, least), at(least, 0), power(1, -2147)}, {at(-0x1p1023, 0), at(0x1p1023, 0), power(1, 2048)}, {at(-0x1p1023, 0x1p1023), at(0x1p1023, -0x1p1023), power(1, 2049)}, {at(0, 0x1p-530), at(0x1p-530, 0), power(1, -1059)},
	} {
		if d, e := exact.Square(c.a, c.b); e != nil || !same(d, c.want) {
			t.Errorf("P8.2: Square of %s: %v %v", seen(c.a, c.b), d, e)
		}
		checkTwo(t, c.a, c.b)
	}
}

func TestNear(t *testing.T) {
	for _, c := range []struct {
		p, a, b api.Point
		want    int
	}{
		{at(0, 0), at(3, 4), at(5, 0), 0}, {at(0, 0), at(2, 0), at(1, 0), 1}, {at(0, 0), at(0, -1), at(2, 0), -1}, {at(10, 10), at(9, 8), at(11, 13), -1}, {at(-10, 10), at(-13, 14), at(-10, 5), 0}, {at(1e15, 1), at(1e15, 3), at(1e15-1, 1), 1}, {at(7, 7), at(7, 7), at(7, over(7)), -1},
		{at(1e-200, 1), at(5, 1), at(1e100, 1), -1}, {at(-5, -5), at(-1e-100, -5), at(-5, -1e-101), -1}, {at(-1e300, 1e-300), at(1e-300, 5), at(1, 1e-300), -1},
		{at(0, 0), at(3, 4), at(over(5), 0), -1}, {at(0, 0), at(3, 4), at(under(5), 0), 1}, {at(0, 0), at(over(3), 4), at(5, 0), 1}, {at(0, 0), at(3, 4), at(0, -over(5)), -1}, {at(1, 1), at(1, 1), at(1, 1), 0}, {at(noughtBelow, 0), at(0, noughtBelow), at(0, 0), 0}, {at(noughtBelow, 0), at(0, noughtBelow), at(0, least), -1},
		{at(0, 0), at(1e200, 0), at(0, 1e199), 1}, {at(0, 0), at(1e200, 0), at(0, under(1e200)), 1}, {at(0, 0), at(1e200, 0), at(0, -1e200), 0}, {at(0, 0), at(greatest, greatest), at(greatest, -under(greatest)), 1}, {at(-greatest, 0), at(greatest, 0), at(greatest, least), -1}, {at(-greatest, 0), at(greatest, 0), at(under(greatest), 0), 1}, {at(greatest, greatest), at(-greatest, -greatest), at(-greatest, -greatest), 0}, {at(0, 0), at(1, 0), at(greatest, 0), -1}, {at(0, 0), at(greatest, least), at(greatest, 0), 1},
		{at(0, 0), at(least, 0), at(0, 2*least), -1}, {at(0, 0), at(least, least), at(0, least), 1}, {at(least, 0), at(0, 0), at(2*least, 0), 0}, {at(0, 0), at(3*least, -4*least), at(5*least, 0), 0}, {at(0, 0), at(1e-200, 0), at(0, over(1e-200)), -1}, {at(0, 0), at(0x1p-520, 0), at(0x1p-520, 0x1p-570), -1}, {at(0, 0), at(0x1p-520, 0x1p-1000), at(0x1p-520, 0), 1}, {at(0, 0), at(leastHigh, 0), at(0, under(leastHigh)), 1}, {at(0, 0), at(0, 0), at(least, 0), -1},
		// The lesser of what is squared comes to nothing beside the other one, as floats.
		{at(0, 0), at(1, 0x1p-30), at(1, 0), 1}, {at(0, 0), at(1, least), at(1, 0), 1}, {at(0, 0), at(1, -least), at(1, least), 0}, {at(least, 0), at(1, 0), at(-1, 0), -1}, {at(0, 1e-300), at(7, 1e300), at(-7, -1e300), -1},
	} {
		if n, e := exact.Near(c.p, c.a, c.b); e != nil || n != c.want {
			t.Errorf("P8.2: Near of %s: %v %v", seen(c.p, c.a, c.b), n, e)
		}
		checkNears(t, c.p, c.a, c.b)
		checkNears(t, swapped(c.p), swapped(c.a), swapped(c.b))
		checkNears(t, mirrored(c.p), mirrored(c.a), mirrored(c.b))
	}
}

// Two points that lie about as far from a third one: as far, or one or more
// floats beside that. Of many of these the floats are sure, and tell the
// wrong order, by more than the last place.
func TestNearInLastPlace(t *testing.T) {
	state := uint64(8)
	next := func() float64 { // from -1 to below 1
		state = state*6364136223846793005 + 1442695040888963407
		return float64(int64(state)>>10) * 0x1p-53
	}
	even, wrong, farWrong := 0, 0, 0
	for i := range 30000 {
		n := math.Ldexp(1, i%801-400)
		// Turned about 0 by a right angle, and seen from so little beside it
		// that the differences are rounded.
		x, y := 1+next()/8, next()/2
		p, a, b := times(at(next(), next()), n*0x1p-52), times(at(x, y), n), times(at(-y, x), n)
		checkNears(t, p, a, b)
		farA, sureA := filter.Far(p, a)
		farB, sureB := filter.Far(p, b)
		want := squareOf(p, a).Cmp(squareOf(p, b))
		if !sureA || !sureB || want == cmp.Compare(farA, farB) {
			continue
		}
		switch apart := math.Abs(farA-farB) / max(farA, farB); {
		case apart == 0:
			even++
		case apart > 0x1p-52:
			farWrong++
			fallthrough
		default:
			wrong++
		}
	}
	if even < 100 || wrong < 100 || farWrong < 10 {
		t.Errorf("P8.2: of too few floats tell an order that is wrong: %d %d %d", even, wrong, farWrong)
	}
}

// As far, one float nearer, and one farther, of sizes that floats reckon rightly, and of such as they don't.
func TestNearBeside(t *testing.T) {
	for power := -1070; power <= 1020; power += 10 {
		n := math.Ldexp(1, power)
		p, a := at(0, noughtBelow), at(3*n, -4*n)
		for _, c := range []struct {
			b    api.Point
			want int
		}{{at(5*n, 0), 0}, {at(noughtBelow, -5*n), 0}, {at(-4*n, 3*n), 0}, {at(over(5*n), 0), -1}, {at(0, under(5*n)), 1}, {at(-under(4*n), 3*n), 1}, {at(4*n, over(3*n)), -1}} {
			if near, e := exact.Near(p, a, c.b); e != nil || near != c.want {
				t.Errorf("P8.2: Near of %s: %v %v, not %v", seen(p, a, c.b), near, e, c.want)
			}
			checkNears(t, p, a, c.b)
		}
	}
}

// A call hands points to what it is of, and tells the error, and whether nothing is beside it.
type call struct {
	name string
	of   func(l []api.Point) (e error, empty bool)
	many int
}

func calls() []call {
	return []call{
		{"Turn", func(l []api.Point) (error, bool) { n, e := exact.Turn(l[0], l[1], l[2]); return e, n == 0 }, 3},
		{"Lex", func(l []api.Point) (error, bool) { n, e := exact.Lex(l[0], l[1]); return e, n == 0 }, 2},
		{"Area", func(l []api.Point) (error, bool) { d, e := exact.Area(l[0], l[1], l[2]); return e, nothing(d) }, 3},
		{"Square", func(l []api.Point) (error, bool) { d, e := exact.Square(l[0], l[1]); return e, nothing(d) }, 2},
		{"Near", func(l []api.Point) (error, bool) { n, e := exact.Near(l[0], l[1], l[2]); return e, n == 0 }, 3},
		{"Check", func(l []api.Point) (error, bool) { return exact.Check(l), true }, 3},
	}
}

// Points that aren't good are told at each of the places, and at more than
// one the first of them, by the order in which they are handed in.
func TestBadPoints(t *testing.T) {
	goods := [][]api.Point{
		{at(1, 2), at(3, -4), at(5, 6)}, {at(0, 0), at(2, 0), at(1, 0)}, {at(0, 0), at(0, 0), at(0, 0)}, {at(noughtBelow, 5), at(0, noughtBelow), at(noughtBelow, noughtBelow)}, {at(greatest, 0), at(-greatest, 1), at(0, greatest)}, {at(least, 0), at(0, least), at(1e-200, 1e200)},
	}
	for _, c := range calls() {
		for _, good := range goods {
			if e, _ := c.of(good); e != nil {
				t.Errorf("P8.2: %s of %s: %v", c.name, seen(good...), e)
			}
			for _, bad := range badPoints() {
				for places := 1; places < 1<<c.many; places++ {
					l, first := slices.Clone(good), c.many
					for i := c.many - 1; i >= 0; i-- {
						if places>>i&1 == 1 {
							l[i], first = bad, i
						}
					}
					if e, empty := c.of(l); !faultAt(e, first) || !empty {
						t.Errorf("P8.2: %s of %s: %v, or not nothing", c.name, seen(l[:c.many]...), e)
					}
				}
			}
		}
	}
}

// Unlike ones that aren't good beside one another, which cancel or outdo each other as floats.
func TestBadPointsTogether(t *testing.T) {
	bad := []api.Point{{X: infinite}, {X: infinite | signBit}, {Y: infinite}, {Y: infinite | signBit}, {X: infinite | 1, Y: infinite}, {X: 1, Y: infinite | 1<<51}}
	all := append(bad, at(0, 0), at(-1, 3), at(greatest, noughtBelow))
	for _, c := range calls() {
		for _, p := range all {
			for _, q := range all {
				for _, r := range all {
					l := []api.Point{p, q, r}
					first := slices.IndexFunc(l[:c.many], func(p api.Point) bool { return slices.Contains(bad, p) })
					e, empty := c.of(l)
					if first < 0 && e != nil || first >= 0 && (!faultAt(e, first) || !empty) {
						t.Errorf("P8.2: %s of %s: %v, or not nothing", c.name, seen(l[:c.many]...), e)
					}
				}
			}
		}
	}
}

// What is handed in isn't changed, its spare room neither; answers share no memory.
func TestHandedIn(t *testing.T) {
	room := append(points(), api.Point{X: infinite, Y: signBit})
	before := slices.Clone(room)
	exact.Check(room)
	exact.Check(room[:5])
	exact.Check(room[3:7:9])
	if !slices.Equal(room, before) {
		t.Errorf("P8.1: handed in was %x, is now %x", before, room)
	}
	a, b, c := at(1e100, 3), at(-5, 7), at(0, 1e-100)
	for range 3 {
		area, e := exact.Area(a, b, c)
		square, f := exact.Square(a, b)
		if e != nil || f != nil || !same(area, plain(areaOf(a, b, c))) || !same(square, plain(squareOf(a, b))) {
			t.Errorf("P8.2: Area and Square of %s: %v %v %v %v", seen(a, b, c), area, e, square, f)
		}
		for _, list := range [][]uint64{area.M.Mag, square.M.Mag} {
			list = list[:cap(list)]
			for i := range list {
				list[i]++
			}
		}
	}
}
