package dyadic_test

import (
	"cmp"
	"errors"
	"fmt"
	"math"
	"math/big"
	"slices"
	"testing"

	"outrigger/api"
	"outrigger/dyadic"
	"outrigger/ratio"
	"outrigger/whole"
)

// What the document says may be, by its words.
const (
	maxExp   = 16384
	maxLimbs = 256
	maxBits  = maxLimbs * 64
)

const (
	top         = math.MaxUint64
	noughtBelow = uint64(1) << 63
	greatest    = uint64(2047)<<52 - 1
	infinite    = uint64(2047) << 52
)

// ones: n limbs, all of whose bits are 1.
func ones(n int) []uint64 { return slices.Repeat([]uint64{top}, n) }

// atTop: a limb above n noughts.
func atTop(n int, limb uint64) []uint64 { return append(make([]uint64, n), limb) }

// noughts: a number with n noughts more at its top.
func noughts(a []uint64, n int) []uint64 { return append(slices.Clone(a), make([]uint64, n)...) }

// above and below: dyadics of these limbs, as they stand.
func above(exp int, mag ...uint64) api.Dyadic { return api.Dyadic{M: api.Int{Mag: mag}, E: exp} }
func below(exp int, mag ...uint64) api.Dyadic {
	return api.Dyadic{M: api.Int{Neg: true, Mag: mag}, E: exp}
}

// of: a small number times a power of two, as it stands.
func of(m int64, exp int) api.Dyadic { return api.Dyadic{M: whole.Of(m), E: exp} }

// minus: the number with the other sign, as it stands.
func minus(d api.Dyadic) api.Dyadic {
	d.M.Neg = !d.M.Neg
	return d
}

// sameInt and same: field by field, so that what isn't plain is no other number's like.
func sameInt(a, b api.Int) bool { return a.Neg == b.Neg && slices.Equal(a.Mag, b.Mag) }
func same(a, b api.Dyadic) bool { return a.E == b.E && sameInt(a.M, b.M) }

// nothing: is it what stands beside an error?
func nothing(d api.Dyadic) bool { return same(d, api.Dyadic{}) }

func noRatio(r api.Ratio) bool { return sameInt(r.Num, api.Int{}) && sameInt(r.Den, api.Int{}) }

// tell: a number for a remark, of many limbs only how many.
func tell(d api.Dyadic) string {
	if len(d.M.Mag) > 8 {
		return fmt.Sprintf("{%v [%d limbs] %d}", d.M.Neg, len(d.M.Mag), d.E)
	}
	return fmt.Sprint(d)
}

// toBig: a whole number as the library has it.
func toBig(a api.Int) *big.Int {
	sum := new(big.Int)
	for i := len(a.Mag) - 1; i >= 0; i-- {
		sum.Lsh(sum, 64)
		sum.Or(sum, new(big.Int).SetUint64(a.Mag[i]))
	}
	if a.Neg {
		sum.Neg(sum)
	}
	return sum
}

// fromBig: a whole number of the library's, plain.
func fromBig(m *big.Int) api.Int {
	a := api.Int{Neg: m.Sign() < 0}
	rest, low := new(big.Int).Abs(m), new(big.Int).SetUint64(top)
	for rest.Sign() != 0 {
		a.Mag = append(a.Mag, new(big.Int).And(rest, low).Uint64())
		rest.Rsh(rest, 64)
	}
	return a
}

// expected: m times 2^exp, plain, and whether it may be, by the document's words alone.
func expected(m *big.Int, exp int) (api.Dyadic, bool) {
	if m.Sign() == 0 {
		return api.Dyadic{}, true
	}
	n := int(m.TrailingZeroBits())
	rest := new(big.Int).Rsh(new(big.Int).Abs(m), uint(n))
	if exp += n; exp < -maxExp || exp > maxExp || rest.BitLen() > maxBits {
		return api.Dyadic{}, false
	}
	if m.Sign() < 0 {
		rest.Neg(rest)
	}
	return api.Dyadic{M: fromBig(rest), E: exp}, true
}

// level: both numbers, times a power of two that is told.
func level(a, b api.Dyadic) (x, y *big.Int, exp int) {
	exp = min(a.E, b.E)
	x = new(big.Int).Lsh(toBig(a.M), uint(a.E-exp))
	y = new(big.Int).Lsh(toBig(b.M), uint(b.E-exp))
	return x, y, exp
}

// check: is the answer what was expected, or nothing and Range?
func check(t *testing.T, what string, got api.Dyadic, e error, want api.Dyadic, may bool) {
	t.Helper()
	switch {
	case may && (e != nil || !same(got, want)):
		t.Errorf("%s: %s %v, not %s", what, tell(got), e, tell(want))
	case !may && (!errors.Is(e, api.Range) || !nothing(got)):
		t.Errorf("%s: %s %v, not Range", what, tell(got), e)
	}
}

// source makes the same limbs each time.
type source struct{ state uint64 }

func (s *source) word() uint64 {
	s.state ^= s.state << 13
	s.state ^= s.state >> 7
	s.state ^= s.state << 17
	return s.state
}

func (s *source) limbs(n int) []uint64 {
	a := make([]uint64, n)
	for i := range a {
		a[i] = s.word()
	}
	return a
}

// numbers: numbers that may be, edges and others, above 0 and below, plain and not.
func numbers() []api.Dyadic {
	list := []api.Dyadic{
		above(0), above(7), above(-maxExp), above(maxExp), above(0, 0), above(-5, 0, 0, 0), above(3, noughts(nil, 300)...),
		of(1, 0), of(1, 1), of(2, 0), of(1, -1), of(3, -1), of(1, 2), of(6, 1), of(12, 0), of(5, 0), of(7, -3), of(15, 100), of(1025, 0), of(1, 10), of(1<<40, -40),
		above(0, top), above(0, 1<<63), above(-64, 0, 1), above(-63, 1, 1), above(64, 0, 0, 12, 0), above(-128, 0, 0, 1<<63, 0, 0), above(0, top, top), above(1, top-1, top), above(-1000, 0, top),
		of(1, maxExp), of(1, maxExp-1), of(3, maxExp-1), of(2, maxExp-1), of(1, -maxExp), of(3, -maxExp), of(12, -maxExp), of(2, 1-maxExp), of(4, maxExp-2),
		above(0, ones(4)...), above(-300, ones(255)...), above(0, ones(256)...), above(maxExp, ones(256)...), above(-maxExp, ones(256)...), above(0, noughts(ones(256), 9)...),
		above(0, atTop(255, 1)...), above(-maxExp, atTop(255, 1)...), above(-maxExp, atTop(255, 1<<63)...), above(0, append([]uint64{1}, atTop(254, 1<<63)...)...),
	}
	s := &source{state: 88172645463325252}
	for i := range 14 {
		mag := s.limbs(1 + i%7)
		list = append(list, above(i*37-200, mag...), above(i-7, append(atTop(i%3, 0), mag...)...))
	}
	for _, d := range list {
		list = append(list, minus(d))
	}
	return list
}

// refused: numbers that may not be, as they stand.
func refused() []api.Dyadic {
	list := []api.Dyadic{
		of(1, maxExp+1), of(1, -maxExp-1), of(3, 2*maxExp), of(3, math.MaxInt), of(3, math.MinInt), of(5, math.MinInt+1), of(5, 1<<32), of(5, -1<<32),
		// In their plain forms these would be some that may.
		of(2, -maxExp-1), of(1<<30, -maxExp-30), above(0, atTop(256, 1)...), above(-100, atTop(299, 12)...),
		above(maxExp + 1), above(-maxExp - 1), above(math.MaxInt), above(math.MinInt), above(maxExp+1, 0, 0),
		above(0, ones(257)...), above(0, noughts(ones(257), 3)...), above(maxExp, ones(257)...), above(-maxExp, ones(300)...), above(0, ones(1025)...),
	}
	for _, d := range list {
		list = append(list, minus(d))
	}
	return list
}

// reckoned: the number that finite bits are, by the document's words alone.
func reckoned(b uint64) (*big.Int, int) {
	e, f := int(b>>52&2047), new(big.Int).SetUint64(b&(1<<52-1))
	if e == 0 {
		e = 1
	} else {
		f.Add(f, new(big.Int).Lsh(big.NewInt(1), 52))
	}
	if b>>63 == 1 {
		f.Neg(f)
	}
	return f, e - 1075
}

// finite: finite bits of every kind, above 0 and below.
func finite() []uint64 {
	list := []uint64{0, 1, 2, 3, 12, 1 << 51, 1<<52 - 1, 1<<52 - 2, 1 << 52, 1<<52 + 1, 2<<52 - 1, 2 << 52, 2046 << 52, greatest - 1, greatest}
	for _, x := range []float64{0.1, 0.5, 0.75, 1, 1.5, 2, 3, 7, 10, 1024, 1e15, 1<<53 - 1, 1 << 53, 1e300, 1e-300, math.Pi} {
		list = append(list, math.Float64bits(x))
	}
	for e := uint64(0); e < 2047; e += 23 {
		f := (e + 1) * 0x9E3779B97F4A7C15 >> 12 // another f for each e, its bits well mixed
		list = append(list, e<<52, e<<52|f, e<<52|f&^(1<<20-1))
	}
	for _, b := range list {
		list = append(list, b^noughtBelow)
	}
	return list
}

func TestOf(t *testing.T) {
	for _, c := range []struct {
		x    float64
		want api.Dyadic
	}{{0, of(0, 0)}, {math.Copysign(0, -1), of(0, 0)}, {1, of(1, 0)}, {-1, of(-1, 0)}, {2, of(1, 1)}, {1.5, of(3, -1)}, {-0.75, of(-3, -2)}, {-12, of(-3, 2)}, {0.1, of(3602879701896397, -55)}, {math.MaxFloat64, of(1<<53-1, 971)}, {-math.MaxFloat64, of(1-1<<53, 971)}, {math.SmallestNonzeroFloat64, of(1, -1074)}, {-math.SmallestNonzeroFloat64, of(-1, -1074)}, {0x1p-1022, of(1, -1022)}, {0x1p1023, of(1, 1023)}} {
		if d, e := dyadic.Of(math.Float64bits(c.x)); e != nil || !same(d, c.want) {
			t.Errorf("P6.1: Of(%v): %s %v", c.x, tell(d), e)
		}
	}
	for _, b := range finite() {
		want, _ := expected(reckoned(b))
		if d, e := dyadic.Of(b); e != nil || !same(d, want) {
			t.Errorf("P6.1: Of(%x): %s %v, not %s", b, tell(d), e, tell(want))
		}
	}
}

func TestOfRefuses(t *testing.T) {
	list := []uint64{infinite, infinite + 1, infinite | 12345, infinite | 1<<51, 1<<63 - 1, math.Float64bits(math.NaN()), math.Float64bits(math.Inf(1))}
	for i := range 52 {
		list = append(list, infinite|1<<i)
	}
	for _, b := range list {
		for _, b := range []uint64{b, b ^ noughtBelow} {
			if d, e := dyadic.Of(b); !errors.Is(e, api.BadPoint) || !nothing(d) {
				t.Errorf("P6.1: Of(%x): %s %v", b, tell(d), e)
			}
		}
	}
}

func TestPlain(t *testing.T) {
	for _, c := range []struct{ d, want api.Dyadic }{
		{of(12, 0), of(3, 2)}, {of(-12, -2), of(-3, 0)}, {of(5, 9), of(5, 9)}, {of(0, 0), of(0, 0)}, {above(99), of(0, 0)}, {below(0), of(0, 0)}, {below(-7, 0, 0), of(0, 0)}, {above(maxExp, noughts(nil, 400)...), of(0, 0)}, {below(-maxExp), of(0, 0)},
		{above(0, 0, 1), of(1, 64)}, {below(-100, 0, 0, 6, 0), of(-3, 29)}, {above(-3, 8), of(1, 0)}, {above(0, 1<<63, 1), above(63, 3)}, {above(0, 5, 0, 0), of(5, 0)},
		{of(12, -maxExp), of(3, 2-maxExp)}, {of(1, maxExp), of(1, maxExp)}, {of(-1, -maxExp), of(-1, -maxExp)}, {of(2, maxExp-1), of(1, maxExp)},
		{above(0, ones(256)...), above(0, ones(256)...)}, {above(0, noughts(ones(256), 7)...), above(0, ones(256)...)}, {above(0, atTop(255, 1<<63)...), of(1, maxBits-1)}, {above(1, atTop(255, 1<<63)...), of(1, maxExp)}, {above(64, atTop(255, 1)...), of(1, maxExp)},
	} {
		if d, e := dyadic.Plain(c.d); e != nil || !same(d, c.want) {
			t.Errorf("P6.1: Plain(%s): %s %v", tell(c.d), tell(d), e)
		}
	}
	for _, d := range numbers() {
		want, may := expected(toBig(d.M), d.E)
		got, e := dyadic.Plain(d)
		check(t, "P6.1: Plain of "+tell(d), got, e, want, may)
	}
}

func TestPlainRefuses(t *testing.T) {
	beyond := []api.Dyadic{of(2, maxExp), of(-6, maxExp), of(4, maxExp-1), above(2, atTop(255, 1<<63)...), above(65, atTop(255, 1)...), above(maxExp, atTop(255, 3)...)}
	for _, d := range append(beyond, refused()...) {
		got, e := dyadic.Plain(d)
		check(t, "P6.1: Plain of "+tell(d), got, e, api.Dyadic{}, false)
	}
}

// Each number with each, itself too, in either order.
func TestReckoning(t *testing.T) {
	list := numbers()
	for _, a := range list {
		for _, b := range list {
			what := tell(a) + ", " + tell(b)
			x, y, exp := level(a, b)
			got, e := dyadic.Add(a, b)
			want, may := expected(new(big.Int).Add(x, y), exp)
			check(t, "P6.2: Add of "+what, got, e, want, may)
			got, e = dyadic.Sub(a, b)
			want, may = expected(new(big.Int).Sub(x, y), exp)
			check(t, "P6.2: Sub of "+what, got, e, want, may)
			got, e = dyadic.Mul(a, b)
			want, may = expected(new(big.Int).Mul(toBig(a.M), toBig(b.M)), a.E+b.E)
			check(t, "P6.2: Mul of "+what, got, e, want, may)
			if n, e := dyadic.Cmp(a, b); e != nil || n != x.Cmp(y) {
				t.Errorf("P6.2: Cmp of %s: %v %v", what, n, e)
			}
		}
	}
}

func TestAddEdges(t *testing.T) {
	wide := above(0, append([]uint64{1}, atTop(254, 1<<63)...)...) // 2^(maxBits-1) and 1
	for i, c := range []struct {
		a, b, want api.Dyadic
		may        bool
	}{
		{of(3, -1), of(1, 2), of(11, -1), true}, {of(-3, 0), of(5, 0), of(1, 1), true}, {of(3, 5), of(-3, 5), of(0, 0), true}, {of(6, 0), of(-3, 1), of(0, 0), true}, {of(1, 100), of(1, 100), of(1, 101), true}, {of(6, 1), above(99), of(3, 2), true}, {below(-9, 0), below(4), of(0, 0), true},
		{of(1, 0), of(1, maxBits-1), wide, true}, {of(1, 0), of(1, maxExp), of(0, 0), false}, {of(1, -1), of(1, maxBits-1), of(0, 0), false}, {of(1, 1-maxExp), of(1, 0), above(1-maxExp, wide.M.Mag...), true}, {of(1, -maxExp), of(1, 0), of(0, 0), false}, {of(1, maxExp), of(1, -maxExp), of(0, 0), false},
		{of(1, maxExp), of(1, maxExp), of(0, 0), false}, {of(1, maxExp), of(-1, maxExp), of(0, 0), true}, {of(1, maxExp-1), of(1, maxExp-1), of(1, maxExp), true}, {of(3, maxExp), of(-1, maxExp), of(0, 0), false}, {of(3, maxExp-1), of(-1, maxExp-1), of(1, maxExp), true}, {of(5, maxExp), of(-2, maxExp), of(3, maxExp), true}, {of(2, maxExp), of(-1, maxExp), of(1, maxExp), true},
		{of(1, -maxExp), of(1, -maxExp), of(1, 1-maxExp), true}, {of(1, -maxExp), of(-3, -maxExp), of(-1, 1-maxExp), true}, {of(1, -maxExp), above(maxExp), of(1, -maxExp), true}, {above(maxExp), of(-1, -maxExp), of(-1, -maxExp), true},
		{above(0, ones(256)...), of(1, 0), of(1, maxBits), true}, {above(0, ones(256)...), of(2, 0), of(0, 0), false}, {above(0, ones(256)...), above(0, ones(256)...), above(1, ones(256)...), true}, {above(1, ones(256)...), of(1, 1), of(0, 0), false}, {above(1, ones(256)...), of(1, 0), of(0, 0), false}, {above(0, ones(256)...), of(-1, 0), above(1, append(ones(255), 1<<63-1)...), true},
	} {
		got, e := dyadic.Add(c.a, c.b)
		check(t, fmt.Sprintf("P6.2: Add %d", i), got, e, c.want, c.may)
		got, e = dyadic.Add(c.b, c.a)
		check(t, fmt.Sprintf("P6.2: Add %d, other order", i), got, e, c.want, c.may)
		got, e = dyadic.Sub(c.a, minus(c.b))
		check(t, fmt.Sprintf("P6.2: Sub %d", i), got, e, c.want, c.may)
		got, e = dyadic.Sub(minus(c.b), c.a)
		if !nothing(c.want) {
			c.want = minus(c.want)
		}
		check(t, fmt.Sprintf("P6.2: Sub %d, other order", i), got, e, c.want, c.may)
	}
}

func TestMulEdges(t *testing.T) {
	half := ones(128)
	squared := new(big.Int).Exp(toBig(api.Int{Mag: half}), big.NewInt(2), nil)
	square := api.Dyadic{M: fromBig(squared)} // 256 limbs
	for i, c := range []struct {
		a, b, want api.Dyadic
		may        bool
	}{
		{of(3, -1), of(1, 2), of(3, 1), true}, {of(-3, 0), of(5, 0), of(-15, 0), true}, {of(-3, 7), of(-5, -9), of(15, -2), true}, {of(6, 1), above(99), of(0, 0), true}, {of(-6, 1), below(-99, 0), of(0, 0), true}, {above(maxExp), above(maxExp), of(0, 0), true}, {above(-maxExp), of(-3, -maxExp), of(0, 0), true}, {of(6, 0), of(10, 0), of(15, 2), true},
		{of(1, maxExp), of(1, 0), of(1, maxExp), true}, {of(1, maxExp), of(1, 1), of(0, 0), false}, {of(1, maxExp), of(2, 0), of(0, 0), false}, {of(3, maxExp), of(6, -1), of(9, maxExp), true}, {of(1, maxExp), of(-1, -maxExp), of(-1, 0), true}, {of(1, maxExp), of(1, maxExp), of(0, 0), false},
		{of(1, -maxExp), of(1, 0), of(1, -maxExp), true}, {of(1, -maxExp), of(1, -1), of(0, 0), false}, {of(1, -maxExp), of(2, -1), of(1, -maxExp), true}, {of(4, -maxExp), of(3, -2), of(3, -maxExp), true}, {of(4, -maxExp), of(3, -3), of(0, 0), false}, {of(1, -maxExp), of(1, -maxExp), of(0, 0), false},
		{above(0, half...), above(0, half...), square, true}, {above(0, half...), below(5, half...), below(5, square.M.Mag...), true}, {above(0, half...), above(0, append(ones(128), 1)...), of(0, 0), false}, {above(0, ones(256)...), of(-1, 3), below(3, ones(256)...), true}, {above(0, ones(256)...), of(3, 0), of(0, 0), false}, {above(0, ones(256)...), of(4, 0), above(2, ones(256)...), true}, {above(0, ones(256)...), above(0, ones(256)...), of(0, 0), false},
		{above(0, atTop(255, 1)...), of(1, 0), of(1, maxExp-64), true}, {above(-maxExp, atTop(255, 1)...), above(-maxExp, atTop(255, 1)...), of(1, -128), true}, {above(-maxExp, atTop(255, 1)...), above(0, ones(256)...), above(-64, ones(256)...), true}, {above(0, atTop(255, 1)...), above(0, atTop(255, 1)...), of(0, 0), false},
	} {
		got, e := dyadic.Mul(c.a, c.b)
		check(t, fmt.Sprintf("P6.2: Mul %d", i), got, e, c.want, c.may)
		got, e = dyadic.Mul(c.b, c.a)
		check(t, fmt.Sprintf("P6.2: Mul %d, other order", i), got, e, c.want, c.may)
	}
}

// Numbers that rise, each held against each; those of a row are as much. Of
// some the difference may not be, and of some the plain form.
func TestCmpEdges(t *testing.T) {
	rows := [][]api.Dyadic{
		{below(maxExp, ones(256)...)}, {of(-2, maxExp)}, {of(-1, maxExp), of(-2, maxExp-1)}, {below(0, ones(256)...), below(0, noughts(ones(256), 9)...)}, {of(-3, -1), of(-6, -2)}, {of(-1, 0)}, {of(-3, -maxExp)}, {of(-1, -maxExp)},
		{of(0, 0), above(99), below(0), below(-7, 0, 0), above(maxExp), below(-maxExp), above(0, noughts(nil, 300)...)},
		{of(1, -maxExp)}, {of(2, -maxExp), of(1, 1-maxExp)}, {of(3, -maxExp)}, {of(1, 0), of(2, -1), above(-64, 0, 1)}, {of(3, -1)}, {of(1, 10), of(1024, 0)}, {of(1025, 0)}, {above(0, ones(256)...)}, {of(1, maxExp), above(64, atTop(255, 1)...)}, {of(2, maxExp)}, {of(3, maxExp)}, {above(maxExp, ones(256)...)},
	}
	for i, as := range rows {
		for k, bs := range rows {
			for _, a := range as {
				for _, b := range bs {
					if n, e := dyadic.Cmp(a, b); e != nil || n != cmp.Compare(i, k) {
						t.Errorf("P6.2: Cmp(%s, %s): %v %v", tell(a), tell(b), n, e)
					}
				}
			}
		}
	}
}

// What may not be is refused in either place, and in both.
func TestReckoningRefuses(t *testing.T) {
	refuse := func(a, b api.Dyadic) {
		t.Helper()
		what := tell(a) + ", " + tell(b)
		got, e := dyadic.Add(a, b)
		check(t, "P6.2: Add of "+what, got, e, api.Dyadic{}, false)
		got, e = dyadic.Sub(a, b)
		check(t, "P6.2: Sub of "+what, got, e, api.Dyadic{}, false)
		got, e = dyadic.Mul(a, b)
		check(t, "P6.2: Mul of "+what, got, e, api.Dyadic{}, false)
		if n, e := dyadic.Cmp(a, b); !errors.Is(e, api.Range) || n != 0 {
			t.Errorf("P6.2: Cmp of %s: %v %v", what, n, e)
		}
	}
	for _, wrong := range refused() {
		for _, b := range numbers() {
			refuse(wrong, b)
			refuse(b, wrong)
		}
		for _, other := range refused() {
			refuse(wrong, other)
		}
	}
}

// overs: what stands over what, as whole numbers of the library's.
func overs(d api.Dyadic) (num, den *big.Int) {
	num, den = toBig(d.M), big.NewInt(1)
	if d.E < 0 {
		den.Lsh(den, uint(-d.E))
	} else {
		num.Lsh(num, uint(d.E))
	}
	both := new(big.Int).GCD(nil, nil, new(big.Int).Abs(num), den)
	return num.Quo(num, both), den.Quo(den, both)
}

func TestRatio(t *testing.T) {
	for _, c := range []struct {
		d    api.Dyadic
		want string
	}{{of(0, 0), "0"}, {above(-99), "0"}, {below(maxExp, 0, 0), "0"}, {of(3, -2), "3/4"}, {of(12, -4), "3/4"}, {of(-1, 3), "-8"}, {of(-7, 0), "-7"}, {of(6, 0), "6"}, {of(6, -1), "3"}, {of(1, -10), "1/1024"}, {of(-6, -64), "-3/9223372036854775808"}, {above(-64, 0, 5), "5"}, {above(-65, 0, 5, 0), "5/2"}, {of(1, 64), "18446744073709551616"}} {
		r, e := dyadic.Ratio(c.d)
		if s, f := ratio.Text(r); e != nil || f != nil || s != c.want {
			t.Errorf("P6.3: Ratio(%s): %v %v %v", tell(c.d), s, e, f)
		}
	}
	for _, d := range numbers() {
		if _, may := expected(toBig(d.M), d.E); !may {
			continue
		}
		r, e := dyadic.Ratio(d)
		num, den := overs(d)
		if e != nil || !sameInt(r.Num, fromBig(num)) || !sameInt(r.Den, fromBig(den)) {
			t.Errorf("P6.3: Ratio(%s): %v %v", tell(d), r, e)
		}
		if len(d.M.Mag) < 20 && !ratio.Right(r) {
			t.Errorf("P6.3: Ratio(%s): %v, which isn't right", tell(d), r)
		}
	}
}

func TestRatioRefuses(t *testing.T) {
	for _, d := range refused() {
		if r, e := dyadic.Ratio(d); !errors.Is(e, api.Range) || !noRatio(r) {
			t.Errorf("P6.3: Ratio(%s): %v %v", tell(d), r, e)
		}
	}
}

// Of finite bits, the greatest and the least among them, differences,
// products of two, and sums of two of these may all be, and are what they are.
func TestWhatFollows(t *testing.T) {
	bits := []uint64{0, 1, 2, 1<<52 - 1, 1 << 52, greatest - 1, greatest, math.Float64bits(1.5), math.Float64bits(0.1)}
	for _, b := range bits {
		bits = append(bits, b^noughtBelow)
	}
	var diffs []api.Dyadic
	for _, a := range bits {
		for _, b := range bits {
			x, e := dyadic.Of(a)
			y, f := dyadic.Of(b)
			d, g := dyadic.Sub(x, y)
			if e != nil || f != nil || g != nil {
				t.Fatalf("P6.4: the difference of %x and %x: %v %v %v", a, b, e, f, g)
			}
			diffs = append(diffs, d)
		}
	}
	var products []api.Dyadic
	for _, a := range diffs {
		for _, b := range diffs {
			p, e := dyadic.Mul(a, b)
			want, may := expected(new(big.Int).Mul(toBig(a.M), toBig(b.M)), a.E+b.E)
			if check(t, "P6.4: the product of "+tell(a)+" and "+tell(b), p, e, want, true); !may {
				t.Fatalf("P6.4: the product of %s and %s may not be", tell(a), tell(b))
			}
			products = append(products, p)
		}
	}
	slices.SortFunc(products, func(a, b api.Dyadic) int {
		n, _ := dyadic.Cmp(a, b)
		return n
	})
	products = slices.CompactFunc(products, same)
	few := products
	if len(few) > 300 { // the least, the greatest, and those about 0
		middle := len(few) / 2
		few = slices.Concat(few[:100], few[middle-50:middle+50], few[len(few)-100:])
	}
	for _, a := range few {
		for _, b := range few {
			x, y, exp := level(a, b)
			want, may := expected(new(big.Int).Add(x, y), exp)
			sum, e := dyadic.Add(a, b)
			if check(t, "P6.4: the sum of "+tell(a)+" and "+tell(b), sum, e, want, true); !may {
				t.Fatalf("P6.4: the sum of %s and %s may not be", tell(a), tell(b))
			}
		}
	}
}

// What is handed in isn't changed, its spare room neither, and isn't kept.
func TestHandedIn(t *testing.T) {
	before := []uint64{12, 0, 5, 0, 77, 78, 79}
	room := slices.Clone(before)
	// Both lie in the room, and have more of it behind them.
	a, b := above(-3, room[:4]...), below(70, room[2:5]...)
	var kept []api.Int
	keep := func(d api.Dyadic, e error) {
		if e != nil {
			t.Errorf("P6.2: %v", e)
		}
		kept = append(kept, d.M)
	}
	keep(dyadic.Plain(a))
	keep(dyadic.Plain(b))
	keep(dyadic.Plain(above(0, 3)))
	keep(dyadic.Add(a, b))
	keep(dyadic.Add(a, above(0)))
	keep(dyadic.Add(above(0), b))
	keep(dyadic.Sub(a, b))
	keep(dyadic.Sub(above(0), a))
	keep(dyadic.Mul(a, b))
	keep(dyadic.Mul(a, of(1, 0)))
	for _, d := range []api.Dyadic{a, b, of(3, 0), of(1, 5)} {
		r, e := dyadic.Ratio(d)
		if e != nil {
			t.Errorf("P6.3: %v", e)
		}
		kept = append(kept, r.Num, r.Den)
	}
	dyadic.Cmp(a, b)
	if !slices.Equal(room, before) {
		t.Errorf("P6.2: handed in was %v, is now %v", before, room)
	}
	for i, k := range kept {
		was := slices.Clone(k.Mag)
		for n, other := range kept {
			if n != i {
				scribble(other.Mag)
			}
		}
		scribble(room)
		if !slices.Equal(was, k.Mag) {
			t.Errorf("P6.2: answer %d shares its memory", i)
		}
	}
}

// scribble changes a list, its spare room too.
func scribble(a []uint64) {
	a = a[:cap(a)]
	for i := range a {
		a[i]++
	}
}
