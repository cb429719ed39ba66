package hulls_test

import (
	"math/big"
	"math/rand/v2"
	"slices"
	"testing"

	"outrigger/api"
	"outrigger/narrow"
)

// cloud: points, each once, as exact numbers, times 2^(1074 - low).
type cloud struct {
	points []api.Point
	x, y   []*big.Int
	low    uint
}

func cloudOf(l []api.Point) cloud {
	once := onceOf(l)
	var bits []uint64
	for _, p := range once {
		bits = append(bits, p.X)
	}
	for _, p := range once {
		bits = append(bits, p.Y)
	}
	all, low := numbers(bits)
	return cloud{once, all[:len(once)], all[len(once):], low}
}

// strip: the square of how wide one is, as a number over another one above 0.
type strip struct{ num, den *big.Int }

// isNarrower: is it narrower than another one? Any is than none.
func (s strip) isNarrower(other strip) bool {
	return other.num == nil || new(big.Int).Mul(s.num, other.den).Cmp(new(big.Int).Mul(other.num, s.den)) < 0
}

// along: the strip along a way to the right and up that all points just fit into.
func (c cloud) along(x, y *big.Int) strip {
	var sides []*big.Int
	for i := range c.x {
		side := new(big.Int).Mul(x, c.y[i])
		sides = append(sides, side.Sub(side, new(big.Int).Mul(y, c.x[i])))
	}
	order := func(a, b *big.Int) int { return a.Cmp(b) }
	num := new(big.Int).Sub(slices.MaxFunc(sides, order), slices.MinFunc(sides, order))
	den := new(big.Int).Mul(x, x)
	return strip{num.Mul(num, num), den.Add(den, new(big.Int).Mul(y, y))}
}

// narrowest: the narrowest strip that all of at least two points fit into: along
// ways of small whole numbers, through any two of the points, and at right angles
// to these. A strip may be turned around two points that it touches until it goes
// along a line through two of them, and so it becomes narrower, if not to the one
// side then to the other; so it's the narrowest of all.
func (c cloud) narrowest() strip {
	var least strip
	try := func(x, y *big.Int) {
		for _, s := range []strip{c.along(x, y), c.along(new(big.Int).Neg(y), x)} {
			if s.isNarrower(least) {
				least = s
			}
		}
	}
	for x := range int64(4) {
		for y := range int64(4) {
			if x+y > 0 {
				try(big.NewInt(x), big.NewInt(y))
				try(big.NewInt(-x), big.NewInt(y))
			}
		}
	}
	for _, p := range c.twos() {
		try(new(big.Int).Sub(c.x[p[0]], c.x[p[1]]), new(big.Int).Sub(c.y[p[0]], c.y[p[1]]))
	}
	return least
}

// twos: the places of each two points; of many those of two corners, one behind
// the other, and some others.
func (c cloud) twos() (list [][2]int) {
	n := len(c.points)
	step := 1 + n/25
	for i := range n {
		for j := i % step; j < i; j += step {
			list = append(list, [2]int{i, j})
		}
	}
	if step > 1 {
		h := hullBySides(c.points)
		for i, p := range h {
			list = append(list, [2]int{slices.Index(c.points, p), slices.Index(c.points, h[(i+1)%len(h)])})
		}
	}
	return list
}

// widthOf: the square of how wide that is.
func widthOf(l []api.Point) *big.Rat {
	c := cloudOf(l)
	if len(c.x) < 2 {
		return new(big.Rat)
	}
	least := c.narrowest()
	return new(big.Rat).SetFrac(least.num.Lsh(least.num, 2*c.low), least.den.Lsh(least.den, 2*1074))
}

// checkNarrow holds the width of the hull, as each way finds it, against the
// narrowest strip that all points fit into.
func checkNarrow(t *testing.T, l []api.Point) *big.Rat {
	t.Helper()
	want := widthOf(l)
	for _, w := range ways() {
		h, _ := w.hull(l)
		if width, e := narrow.Width(h); e != nil || ratOf(width) == nil || ratOf(width).Cmp(want) != 0 {
			t.Errorf("P18.3: of the hull of %s: %v %v, not %v", seen(l...), width, e, want)
		}
	}
	return want
}

// Lists of all kinds.
func TestNarrow(t *testing.T) {
	t.Parallel()
	by := dice(52)
	none, no := 0, 0
	for _, l := range allKinds(by) {
		width := checkNarrow(t, signed(shuffled(l, by), by))
		if width.Sign() == 0 {
			none++
		} else if !width.IsInt() {
			no++
		}
	}
	if none < 20 || no < 100 {
		t.Errorf("0 %d times, no whole number %d times", none, no)
	}
}

// Each set of points of a small grid: many strips are just as narrow.
func TestNarrowGrid(t *testing.T) {
	t.Parallel()
	by := dice(53)
	for _, l := range gridSets()[1:] {
		checkNarrow(t, shuffled(l, by))
	}
}

// slab: points between two lines alongside each other, and on both.
func slab(x, y float64, n int, by *rand.Rand) (l []api.Point) {
	for i := range n {
		aside := float64(by.IntN(9))
		if i < 4 {
			aside = float64(i / 2 * 8)
		}
		far := float64(by.IntN(64))
		l = append(l, at(far*x-aside*y, far*y+aside*x))
	}
	return l
}

// Points between two lines, of all sizes: these are often the narrowest strip.
func TestNarrowBetweenLines(t *testing.T) {
	t.Parallel()
	by := dice(54)
	between := 0
	for k := range 200 {
		x, y := float64(by.IntN(9)-4), float64(1+by.IntN(4))
		l := slab(x, y, 5+k%12, by)
		width := checkNarrow(t, l)
		if width.Cmp(new(big.Rat).SetFloat64(64*(x*x+y*y))) == 0 {
			between++
		}
		size := []float64{0x1p-1074, 0x1p-1030, 0x1p-500, 0x1p500, 0x1p1013}[k%5]
		other := checkNarrow(t, times(l, size))
		power := new(big.Rat).SetFloat64(size)
		if other.Cmp(width.Mul(width, power.Mul(power, power))) != 0 {
			t.Errorf("of %s, times %x: %v", seen(l...), size, other)
		}
	}
	if between < 100 {
		t.Errorf("the two lines %d times", between)
	}
}
