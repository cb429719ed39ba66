package hulls_test

import (
	"math/big"
	"math/rand/v2"
	"slices"
	"testing"

	"outrigger/api"
	"outrigger/wide"
)

// farthestOf: the greatest square of how far two of at least two points lie
// apart, and all that lie so far apart, each once.
func farthestOf(l []api.Point) (far *big.Rat, farthest [][2]api.Point) {
	once := onceOf(l)
	var coordinates []uint64
	for _, p := range once {
		coordinates = append(coordinates, p.X, p.Y)
	}
	var exact []*big.Int
	for _, b := range coordinates {
		exact = append(exact, number(b))
	}
	most := new(big.Int)
	for i := range once {
		for j := i + 1; j < len(once); j++ {
			x, y := new(big.Int).Sub(exact[2*i], exact[2*j]), new(big.Int).Sub(exact[2*i+1], exact[2*j+1])
			square := x.Mul(x, x).Add(x, y.Mul(y, y))
			switch square.Cmp(most) {
			case 1:
				most, farthest = square, nil
				fallthrough
			case 0:
				farthest = append(farthest, [2]api.Point{once[i], once[j]})
			}
		}
	}
	one := big.NewInt(1)
	return new(big.Rat).SetFrac(most, one.Lsh(one, 2*1074)), farthest
}

// ratOf: so much is a ratio.
func ratOf(r api.Ratio) *big.Rat {
	whole := func(x api.Int) *big.Int {
		sum := new(big.Int)
		for _, limb := range slices.Backward(x.Mag) {
			sum.Lsh(sum, 64).Or(sum, new(big.Int).SetUint64(limb))
		}
		if x.Neg {
			sum.Neg(sum)
		}
		return sum
	}
	if len(r.Den.Mag) == 0 {
		return nil
	}
	return new(big.Rat).SetFrac(whole(r.Num), whole(r.Den))
}

// checkWide holds the farthest two corners of the hull, as each way finds it,
// against the farthest two of all points.
func checkWide(t *testing.T, l []api.Point) (farthest [][2]api.Point) {
	t.Helper()
	most, farthest := farthestOf(l)
	for _, w := range ways() {
		h, _ := w.hull(l)
		pairs, e := wide.Pairs(h)
		far, i, j, e2 := wide.Diameter(h)
		if e != nil || e2 != nil || ratOf(far) == nil || ratOf(far).Cmp(most) != 0 {
			t.Errorf("P17.3: of the hull of %s: %v %v, %v", seen(l...), far, e2, e)
		}
		if len(h) > 1 && !slices.Contains(pairs, [2]int{i, j}) {
			t.Errorf("P17.3: of the hull of %s, %d and %d aren't opposite: %v", seen(l...), i, j, pairs)
		}
		if len(h) > 1 && !slices.Contains(farthest, [2]api.Point{h[i], h[j]}) && !slices.Contains(farthest, [2]api.Point{h[j], h[i]}) {
			t.Errorf("P17.3: of the hull of %s, %d and %d aren't the farthest two", seen(l...), i, j)
		}
		for _, both := range farthest {
			i, j := slices.Index(h, both[0]), slices.Index(h, both[1])
			if i < 0 || j < 0 || !slices.Contains(pairs, [2]int{min(i, j), max(i, j)}) {
				t.Errorf("P17.3: of the hull of %s, %s aren't opposite corners: %v", seen(l...), seen(both[:]...), pairs)
			}
		}
	}
	return farthest
}

// allKinds: lists of a few points, of all kinds, alike, in one line and nearly so;
// of some dozens, and of some hundreds.
func allKinds(by *rand.Rand) [][]api.Point {
	lists := [][]api.Point{
		points(3, 4), points(3, 4, 3, 4), points(0, 0, noughtBelow, 0), points(0, 0, 2, 0), points(2, 0, 0, 0, 2, 0), points(0, 3, 0, 1, 0, 2), points(6, 2, -3, -1, 3, 1, 0, 0), points(6, 2, -3, -1, 3, over(1), 0, 0), points(6, 2, -3, -1, 3, under(1), 0, least),
		points(0, 0, 1, 1, 0.5, 0.5+0x1p-53), points(0, 0, 2, 0, 2, 2, 0, 2, 1, 1, 1, 0), points(1, 0, -1, 0, 0, 1, 0, -1, 0, 0), points(1, 0, -1, 0, 0, over(1), 0, -1, 0, 0), points(1, 0, -1, 0, 0, under(1), 0, -1), points(noughtBelow, 5, 3, 4, 4, 3, 5, noughtBelow, 0, 0),
		points(least, 0, 0, least, 0, 0), points(greatest, 0, -greatest, 0, 0, least, 0, -least, 0, 0), points(greatest, greatest, -greatest, -greatest, 1, 1, 0, least), points(greatest, greatest, -greatest, -greatest, greatest, -greatest, -greatest, greatest),
		row(1, 1, 0.25, 0.125, 9), row(-3, 5, 0x1p-50, 0x1p-49, 7), row(0, 0, 1, 3, 200), bowl(7), back(bowl(6)), bowl(150), wheel(64), coarse(wheel(150)), doubling(-60, 50),
	}
	for n := range 300 {
		lists = append(lists, chance(1+n%14, n, by))
	}
	for n := range 100 {
		lists = append(lists, chance(3+n%8, 0, by)) // of a grid
	}
	for n := range 30 {
		lists = append(lists, chance(30+n, n, by))
	}
	for kind := range 5 {
		lists = append(lists, chance(200, kind, by))
	}
	return lists
}

// Lists of all kinds.
func TestWide(t *testing.T) {
	t.Parallel()
	by := dice(50)
	several := 0
	for _, l := range allKinds(by) {
		if len(checkWide(t, signed(shuffled(l, by), by))) > 1 {
			several++
		}
	}
	if several < 20 {
		t.Errorf("several lie just as far apart %d times", several)
	}
}

// Each set of points of a small grid: many lie just as far apart.
func TestWideGrid(t *testing.T) {
	t.Parallel()
	by := dice(51)
	for _, l := range gridSets()[1:] {
		checkWide(t, shuffled(l, by))
	}
}
