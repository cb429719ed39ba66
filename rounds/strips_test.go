package rounds_test

import (
	"math/big"
	"slices"
	"testing"
)

// fraction: a number over another one, which is above 0; not in least terms.
type fraction struct{ num, den *big.Int }

// cmp: is it less than another one, as much, or more?
func (f fraction) cmp(other fraction) int {
	return new(big.Int).Mul(f.num, other.den).Cmp(new(big.Int).Mul(other.num, f.den))
}

func (f fraction) rat() *big.Rat { return new(big.Rat).SetFrac(f.num, f.den) }

// squared: the square of how wide what is, of two products' difference, a strip
// along a way to the right and up.
func (s spread) squared(area, x, y *big.Int) fraction {
	den := new(big.Int).Mul(x, x)
	den.Add(den, new(big.Int).Mul(y, y))
	return fraction{new(big.Int).Mul(area, area), den.Lsh(den, 2*s.power)}
}

// area: that of a line's ends and a corner, times 2^(2 power).
func (s spread) area(line, place int) *big.Int {
	x, y := s.way(line, (line+1)%len(s.x))
	toX, toY := s.way(line, place)
	return x.Mul(x, toY).Sub(x, y.Mul(y, toX))
}

// strip: the square of how wide the one along a line is, and the places of the
// corners that lie farthest from that.
func (s spread) strip(line int) (width fraction, far []int) {
	most := new(big.Int)
	for place := range s.x {
		area := s.area(line, place)
		switch area.Cmp(most) {
		case 1:
			most, far = area, nil
			fallthrough
		case 0:
			far = append(far, place)
		}
	}
	x, y := s.way(line, (line+1)%len(s.x))
	return s.squared(most, x, y), far
}

// strips: all of them.
func (s spread) strips() (widths []fraction, far [][]int) {
	for line := range s.x {
		width, places := s.strip(line)
		widths, far = append(widths, width), append(far, places)
	}
	return widths, far
}

// narrowest: the least of some, and the places of all that are as narrow.
func narrowest(widths []fraction) (least fraction, lines []int) {
	for line, width := range widths {
		order := -1
		if line > 0 {
			order = width.cmp(least)
		}
		switch order {
		case -1:
			least, lines = width, nil
			fallthrough
		case 0:
			lines = append(lines, line)
		}
	}
	return least, lines
}

// across: the square of how wide a strip is along a way to the right and up, not
// 0 both, that all corners just fit into.
func (s spread) across(x, y *big.Int) fraction {
	var low, high *big.Int
	for i := range s.x {
		side := new(big.Int).Mul(x, s.y[i])
		side.Sub(side, new(big.Int).Mul(y, s.x[i]))
		if low == nil || side.Cmp(low) < 0 {
			low = side
		}
		if high == nil || side.Cmp(high) > 0 {
			high = side
		}
	}
	return s.squared(new(big.Int).Sub(high, low), x, y)
}

// lengths: the squares of the lines' lengths.
func (s spread) lengths() (list []*big.Int) {
	for i := range s.x {
		list = append(list, s.square(i, (i+1)%len(s.x)))
	}
	return list
}

// What tests go by is itself right: of a round of three corners or more a strip
// along a line is what all corners just fit into along it.
func TestStrips(t *testing.T) {
	t.Parallel()
	for _, h := range append(rounds(), gridHulls()...) {
		if len(h) < 3 {
			continue
		}
		s := spreadOf(h)
		widths, far := s.strips()
		for line := range h {
			x, y := s.way(line, (line+1)%len(h))
			if widths[line].cmp(s.across(x, y)) != 0 || len(far[line]) > 2 || slices.Contains(far[line], line) {
				t.Errorf("of %s the strip along %d: %v %v", seen(h...), line, widths[line].rat(), far[line])
			}
		}
	}
}
