package float_test

import (
	"cmp"
	"errors"
	"math"
	"math/big"
	"testing"

	"outrigger/api"
	"outrigger/float"
)

// Bits that the document names, by their words.
const (
	nought      = uint64(0)
	noughtBelow = uint64(1) << 63
	least       = uint64(1)                // e 0, the least number above 0
	greatestLow = uint64(1)<<52 - 1        // e 0, the greatest of that kind
	leastHigh   = uint64(1) << 52          // e 1, f 0
	greatestOne = uint64(2)<<52 - 1        // e 1, the greatest of that kind
	powerTop    = uint64(2046) << 52       // e 2046, f 0
	greatest    = uint64(2047)<<52 - 1     // e 2046, the greatest finite number
	infinite    = uint64(2047) << 52       // e 2047, f 0
	noneLeast   = infinite + 1             // e 2047, the least f that is no number's
	noneQuiet   = infinite + uint64(1)<<51 // e 2047, f with its highest bit
	noneTop     = uint64(1)<<63 - 1        // e 2047, f all ones
)

// bitsOf: bits as Go's floats have them.
func bitsOf(x float64) uint64 { return math.Float64bits(x) }

// otherSign: the same bits, but for the sign.
func otherSign(b uint64) uint64 { return b ^ noughtBelow }

// reckoned: the number that finite bits are, by the document's words alone.
func reckoned(b uint64) *big.Rat {
	e, f := int(b>>52&2047), new(big.Int).SetUint64(b&(1<<52-1))
	if e == 0 {
		e = 1
	} else {
		f.Add(f, new(big.Int).Lsh(big.NewInt(1), 52))
	}
	if b>>63 == 1 {
		f.Neg(f)
	}
	return times(f, e-1075)
}

// times: a whole number times a power of two.
func times(m *big.Int, exp int) *big.Rat {
	power := new(big.Int).Lsh(big.NewInt(1), uint(max(exp, -exp)))
	if exp < 0 {
		return new(big.Rat).SetFrac(m, power)
	}
	return new(big.Rat).SetInt(new(big.Int).Mul(m, power))
}

// finite: finite bits, edges and others, above 0 and below.
func finite() []uint64 {
	list := []uint64{nought, least, 2, 3, 4, greatestLow - 1, greatestLow, uint64(1) << 51, leastHigh, leastHigh + 1, greatestOne, greatestOne + 1, powerTop - 1, powerTop, powerTop + 1, greatest - 1, greatest}
	for _, x := range []float64{0.1, 0.5, 0.75, 1, 1.5, 2, 3, 4, 7, 10, 12, 1024, 1e15, 1 << 52, 1<<53 - 1, 1 << 53, 1e300, 1e-300, math.Pi, math.Nextafter(1, 0), math.Nextafter(1, 2)} {
		list = append(list, bitsOf(x))
	}
	for e := uint64(0); e < 2047; e += 31 {
		f := (e + 1) * 0x9E3779B97F4A7C15 >> 12 // another f for each e, its bits well mixed
		list = append(list, e<<52, e<<52|f, e<<52|f&^(1<<20-1))
	}
	for _, b := range list {
		list = append(list, otherSign(b))
	}
	return list
}

// none: bits that are no finite float's.
func none() []uint64 {
	list := []uint64{infinite, noneLeast, noneLeast + 1, noneQuiet - 1, noneQuiet, noneQuiet + 1, noneTop - 1, noneTop, bitsOf(math.NaN()), bitsOf(math.Inf(1)), infinite | 12345}
	for i := range 52 {
		list = append(list, infinite|1<<i)
	}
	for _, b := range list {
		list = append(list, otherSign(b))
	}
	return list
}

func TestFinite(t *testing.T) {
	for _, b := range finite() {
		if !float.Finite(b) {
			t.Errorf("P5.1: Finite(%x) is false", b)
		}
	}
	for _, b := range none() {
		if float.Finite(b) {
			t.Errorf("P5.1: Finite(%x) is true", b)
		}
	}
	for e := range uint64(2048) {
		for _, b := range []uint64{e << 52, e<<52 | 1, e<<52 | 1<<51, e<<52 | (1<<52 - 1)} {
			if want := e != 2047; float.Finite(b) != want || float.Finite(otherSign(b)) != want {
				t.Errorf("P5.1: Finite(%x) isn't %v", b, want)
			}
		}
	}
}

func TestParts(t *testing.T) {
	for _, c := range []struct {
		b    uint64
		neg  bool
		mant uint64
		exp  int
	}{
		{0x3FF8000000000000, false, 3, -1}, {0xBFF8000000000000, true, 3, -1},
		{nought, false, 0, 0}, {noughtBelow, false, 0, 0},
		{bitsOf(1), false, 1, 0}, {bitsOf(-1), true, 1, 0}, {bitsOf(2), false, 1, 1}, {bitsOf(3), false, 3, 0}, {bitsOf(-12), true, 3, 2}, {bitsOf(0.5), false, 1, -1}, {bitsOf(-0.75), true, 3, -2}, {bitsOf(1 << 60), false, 1, 60}, {bitsOf(1<<53 - 1), false, 1<<53 - 1, 0}, {bitsOf(1000), false, 125, 3},
		{bitsOf(0.1), false, 3602879701896397, -55}, {bitsOf(-0.1), true, 3602879701896397, -55},
		{least, false, 1, -1074}, {otherSign(least), true, 1, -1074}, {2, false, 1, -1073}, {3, false, 3, -1074}, {6, false, 3, -1073}, {1 << 51, false, 1, -1023}, {greatestLow, false, 1<<52 - 1, -1074}, {otherSign(greatestLow), true, 1<<52 - 1, -1074}, {greatestLow - 1, false, 1<<51 - 1, -1073},
		{leastHigh, false, 1, -1022}, {otherSign(leastHigh), true, 1, -1022}, {leastHigh + 1, false, 1<<52 + 1, -1074}, {leastHigh + 2, false, 1<<51 + 1, -1073}, {greatestOne, false, 1<<53 - 1, -1074}, {greatestOne + 1, false, 1, -1021},
		{powerTop, false, 1, 1023}, {otherSign(powerTop), true, 1, 1023}, {powerTop + 1, false, 1<<52 + 1, 971}, {greatest, false, 1<<53 - 1, 971}, {otherSign(greatest), true, 1<<53 - 1, 971}, {greatest - 1, false, 1<<52 - 1, 972}, {powerTop - 1, false, 1<<53 - 1, 970},
	} {
		if neg, mant, exp, e := float.Parts(c.b); neg != c.neg || mant != c.mant || exp != c.exp || e != nil {
			t.Errorf("P5.1: Parts(%x): %v %v %v %v", c.b, neg, mant, exp, e)
		}
	}
}

// What Parts tells is the number that the bits are, in the one form with mant odd.
func TestPartsAreTheNumber(t *testing.T) {
	for _, b := range finite() {
		neg, mant, exp, e := float.Parts(b)
		if e != nil {
			t.Errorf("P5.1: Parts(%x): %v", b, e)
			continue
		}
		m := new(big.Int).SetUint64(mant)
		if neg {
			m.Neg(m)
		}
		if got, want := times(m, exp), reckoned(b); got.Cmp(want) != 0 {
			t.Errorf("P5.1: Parts(%x): %v %v %v, which is %v", b, neg, mant, exp, got)
		}
		if nothing := mant == 0 && exp == 0 && !neg; mant%2 == 0 && !nothing {
			t.Errorf("P5.1: Parts(%x): %v %v %v, which isn't odd", b, neg, mant, exp)
		}
	}
}

// Each e there is, with f 0: a power of two.
func TestPartsOfPowers(t *testing.T) {
	for e := 1; e < 2047; e++ {
		b := uint64(e) << 52
		if neg, mant, exp, fault := float.Parts(b); neg || mant != 1 || exp != e-1023 || fault != nil {
			t.Errorf("P5.1: Parts(%x): %v %v %v %v", b, neg, mant, exp, fault)
		}
		if neg, mant, exp, fault := float.Parts(otherSign(b)); !neg || mant != 1 || exp != e-1023 || fault != nil {
			t.Errorf("P5.1: Parts(%x): %v %v %v %v", otherSign(b), neg, mant, exp, fault)
		}
	}
	for i := range 52 {
		if neg, mant, exp, fault := float.Parts(1 << i); neg || mant != 1 || exp != i-1074 || fault != nil {
			t.Errorf("P5.1: Parts(%x): %v %v %v %v", uint64(1)<<i, neg, mant, exp, fault)
		}
	}
}

func TestPartsRefuses(t *testing.T) {
	for _, b := range none() {
		if neg, mant, exp, e := float.Parts(b); !errors.Is(e, api.BadPoint) || neg || mant != 0 || exp != 0 {
			t.Errorf("P5.1: Parts(%x): %v %v %v %v", b, neg, mant, exp, e)
		}
	}
}

func TestNorm(t *testing.T) {
	if float.Norm(nought) != nought || float.Norm(noughtBelow) != nought {
		t.Errorf("P5.1: Norm of 0: %x, of 0 below 0: %x", float.Norm(nought), float.Norm(noughtBelow))
	}
	for _, b := range append(finite(), none()...) {
		if got := float.Norm(b); b != noughtBelow && got != b {
			t.Errorf("P5.1: Norm(%x): %x", b, got)
		}
	}
}

func TestCmp(t *testing.T) {
	list := finite()
	numbers := make([]*big.Rat, len(list))
	for i, b := range list {
		numbers[i] = reckoned(b)
	}
	for i, a := range list {
		for k, b := range list {
			if got, e := float.Cmp(a, b); e != nil || got != numbers[i].Cmp(numbers[k]) {
				t.Errorf("P5.2: Cmp(%x, %x): %v %v", a, b, got, e)
			}
		}
	}
}

// Numbers that rise, each held against each, itself too; 0 stands there in both its forms.
func TestCmpEdges(t *testing.T) {
	rows := [][]uint64{
		{otherSign(greatest)}, {otherSign(greatest - 1)}, {otherSign(powerTop)}, {bitsOf(-2)}, {bitsOf(-1.5)}, {bitsOf(-1)}, {otherSign(leastHigh + 1)}, {otherSign(leastHigh)}, {otherSign(greatestLow)}, {otherSign(2)}, {otherSign(least)},
		{nought, noughtBelow},
		{least}, {2}, {greatestLow}, {leastHigh}, {leastHigh + 1}, {greatestOne}, {greatestOne + 1}, {bitsOf(1)}, {bitsOf(1.5)}, {bitsOf(2)}, {powerTop - 1}, {powerTop}, {greatest - 1}, {greatest},
	}
	for i, as := range rows {
		for k, bs := range rows {
			for _, a := range as {
				for _, b := range bs {
					if got, e := float.Cmp(a, b); e != nil || got != cmp.Compare(i, k) {
						t.Errorf("P5.2: Cmp(%x, %x): %v %v", a, b, got, e)
					}
				}
			}
		}
	}
}

func TestCmpRefuses(t *testing.T) {
	refuse := func(a, b uint64) {
		t.Helper()
		if got, e := float.Cmp(a, b); !errors.Is(e, api.BadPoint) || got != 0 {
			t.Errorf("P5.2: Cmp(%x, %x): %v %v", a, b, got, e)
		}
	}
	for _, wrong := range none() {
		for _, b := range finite() {
			refuse(wrong, b)
			refuse(b, wrong)
		}
		for _, other := range none() {
			refuse(wrong, other)
		}
	}
}
