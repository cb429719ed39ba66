package nat_test

import (
	"errors"
	"math"
	"math/big"
	"slices"
	"testing"

	"outrigger/api"
	"outrigger/nat"
)

const top = math.MaxUint64

// ones: n limbs, all of whose bits are 1.
func ones(n int) []uint64 { return slices.Repeat([]uint64{top}, n) }

// noughts: a number with n noughts more at its top.
func noughts(a []uint64, n int) []uint64 {
	return append(slices.Clone(a), make([]uint64, n)...)
}

// toBig: a number as the library has it.
func toBig(a []uint64) *big.Int {
	sum := new(big.Int)
	for i := len(a) - 1; i >= 0; i-- {
		sum.Lsh(sum, 64)
		sum.Or(sum, new(big.Int).SetUint64(a[i]))
	}
	return sum
}

// source makes the same limbs each time, edges more often than others.
type source struct{ state uint64 }

func (s *source) word() uint64 {
	s.state ^= s.state << 13
	s.state ^= s.state >> 7
	s.state ^= s.state << 17
	return s.state
}

func (s *source) below(n int) int { return int(s.word() >> 1 % uint64(n)) }

func (s *source) limb() uint64 {
	edges := []uint64{0, 1, top, 1 << 63, top - 1}
	if k := s.below(2 * len(edges)); k < len(edges) {
		return edges[k]
	}
	return s.word()
}

func (s *source) number(most int) []uint64 {
	a := make([]uint64, s.below(most+1))
	for i := range a {
		a[i] = s.limb()
	}
	return a
}

// numbers: edges that the document names, and others.
func numbers() [][]uint64 {
	list := [][]uint64{
		nil, {}, {0}, {0, 0, 0}, {1}, {1, 0}, {1, 0, 0, 0}, {0, 1}, {0, 1, 0}, {2}, {3, 0}, {top}, {top, 0}, {top, top}, {top, top, top, 0},
		{0, 0, 1}, {1 << 63}, {1 << 63, 1 << 63}, {1<<63 - 1}, {0, top}, {top, 0, 1}, {5, 7, 11}, ones(17), noughts(ones(9), 5),
	}
	s := &source{state: 88172645463325252}
	for range 60 {
		list = append(list, s.number(12))
	}
	return list
}

// check holds an answer against the library's, and asks that it be plain.
func check(t *testing.T, what string, got []uint64, want *big.Int) {
	t.Helper()
	if len(got) > 0 && got[len(got)-1] == 0 {
		t.Errorf("%s: not plain: %v", what, got)
	}
	if toBig(got).Cmp(want) != 0 {
		t.Errorf("%s: got %v, want %v", what, got, want)
	}
}

// refuse asks for an error, and for nothing beside it.
func refuse(t *testing.T, what string, got []uint64, e error, want api.Code) {
	t.Helper()
	if !errors.Is(e, want) || len(got) != 0 {
		t.Errorf("%s: got %v and %v, want %v alone", what, got, e, want)
	}
}

func TestPlain(t *testing.T) {
	for _, c := range []struct{ a, want []uint64 }{
		{nil, nil}, {[]uint64{}, nil}, {[]uint64{0}, nil}, {[]uint64{0, 0}, nil}, {[]uint64{7}, []uint64{7}}, {[]uint64{7, 0, 0}, []uint64{7}},
		{[]uint64{0, 7}, []uint64{0, 7}}, {[]uint64{0, 7, 0}, []uint64{0, 7}}, {noughts(ones(2000), 3000), ones(2000)},
	} {
		if got := nat.Plain(c.a); !slices.Equal(got, c.want) {
			t.Errorf("P1.1: Plain(%v): %v", c.a, got)
		}
	}
	for _, a := range numbers() {
		check(t, "P1.1: Plain", nat.Plain(a), toBig(a))
	}
}

func TestCmp(t *testing.T) {
	for _, a := range numbers() {
		for _, b := range numbers() {
			if got, want := nat.Cmp(a, b), toBig(a).Cmp(toBig(b)); got != want {
				t.Errorf("P1.1: Cmp(%v, %v): %v", a, b, got)
			}
		}
	}
	// The lowest limb counts least, and noughts at the top not at all.
	for _, c := range []struct {
		a, b []uint64
		want int
	}{
		{nil, []uint64{0, 0}, 0}, {[]uint64{1, 2}, []uint64{2, 1}, 1}, {[]uint64{2, 1}, []uint64{1, 2}, -1}, {[]uint64{top, 0, 0}, []uint64{0, 1}, -1},
		{ones(2000), noughts(ones(2000), 1), 0}, {noughts(ones(1999), 9), ones(2000), -1},
	} {
		if got := nat.Cmp(c.a, c.b); got != c.want {
			t.Errorf("P1.1: Cmp(%v, %v): %v", c.a, c.b, got)
		}
	}
}

func TestLen(t *testing.T) {
	for _, c := range []struct {
		a    []uint64
		want int
	}{
		{nil, 0}, {[]uint64{0, 0}, 0}, {[]uint64{1}, 1}, {[]uint64{1 << 63}, 64}, {[]uint64{0, 1}, 65}, {[]uint64{top, 3, 0, 0}, 66}, {noughts(ones(3000), 1), 192000},
	} {
		if got := nat.Len(c.a); got != c.want {
			t.Errorf("P1.1: Len(%v): %v", c.a, got)
		}
	}
	for _, a := range numbers() {
		if got := nat.Len(a); got != toBig(a).BitLen() {
			t.Errorf("P1.1: Len(%v): %v", a, got)
		}
	}
}

func TestAdd(t *testing.T) {
	if got := nat.Add([]uint64{top}, []uint64{1}); !slices.Equal(got, []uint64{0, 1}) {
		t.Errorf("P1.2: the example: %v", got)
	}
	for _, a := range numbers() {
		for _, b := range numbers() {
			check(t, "P1.2: Add", nat.Add(a, b), new(big.Int).Add(toBig(a), toBig(b)))
		}
	}
	// There is no limit of a sum.
	long := ones(3000)
	check(t, "P1.2: Add of many limbs", nat.Add([]uint64{1}, long), new(big.Int).Add(toBig(long), big.NewInt(1)))
}

func TestSub(t *testing.T) {
	for _, a := range numbers() {
		for _, b := range numbers() {
			got, e := nat.Sub(a, b)
			want := new(big.Int).Sub(toBig(a), toBig(b))
			if want.Sign() < 0 {
				refuse(t, "P1.2: Sub", got, e, api.Below)
				continue
			}
			if e != nil {
				t.Errorf("P1.2: Sub(%v, %v): %v", a, b, e)
			}
			check(t, "P1.2: Sub", got, want)
		}
	}
	long := append(make([]uint64, 2999), 1)
	got, e := nat.Sub(long, []uint64{1, 0})
	if e != nil || !slices.Equal(got, ones(2999)) {
		t.Errorf("P1.2: Sub of many limbs: %v", e)
	}
	got, e = nat.Sub(noughts([]uint64{4}, 2), []uint64{5})
	refuse(t, "P1.2: Sub with noughts at the top", got, e, api.Below)
}

func TestMul(t *testing.T) {
	for _, a := range numbers() {
		for _, b := range numbers() {
			got, e := nat.Mul(a, b)
			if e != nil {
				t.Errorf("P1.2: Mul(%v, %v): %v", a, b, e)
			}
			check(t, "P1.2: Mul", got, new(big.Int).Mul(toBig(a), toBig(b)))
		}
	}
}

func TestMulLimbs(t *testing.T) {
	for _, c := range []struct{ a, b []uint64 }{
		{ones(512), ones(512)}, {ones(1023), []uint64{top}}, {[]uint64{top}, ones(1023)}, {nil, ones(1024)}, {ones(1024), []uint64{0, 0}},
		{noughts(ones(512), 600), noughts(ones(512), 7)},
	} {
		got, e := nat.Mul(c.a, c.b)
		if e != nil {
			t.Errorf("P1.2: Mul of %d and %d limbs: %v", len(c.a), len(c.b), e)
		}
		check(t, "P1.2: Mul of the most limbs", got, new(big.Int).Mul(toBig(c.a), toBig(c.b)))
	}
	for _, c := range []struct{ a, b []uint64 }{
		{ones(512), ones(513)}, {ones(1024), []uint64{1}}, {[]uint64{1}, ones(1024)}, {nil, ones(1025)}, {ones(1025), []uint64{0}}, {ones(2000), ones(2000)},
		{noughts(ones(1024), 1), noughts([]uint64{1}, 1)},
	} {
		got, e := nat.Mul(c.a, c.b)
		refuse(t, "P1.2: Mul of too many limbs", got, e, api.Range)
	}
}

func TestShl(t *testing.T) {
	for _, a := range append(numbers(), ones(1024), noughts(ones(1024), 8)) {
		for _, n := range []int{0, 1, 7, 31, 63, 64, 65, 127, 128, 200, 4096, 65535, 65536} {
			got, e := nat.Shl(a, n)
			if e != nil {
				t.Errorf("P1.3: Shl(%v, %v): %v", a, n, e)
			}
			check(t, "P1.3: Shl", got, new(big.Int).Lsh(toBig(a), uint(n)))
		}
		for _, n := range []int{-1, -64, -65536, math.MinInt, 65537, 65600, math.MaxInt} {
			got, e := nat.Shl(a, n)
			refuse(t, "P1.3: Shl by what is out of range", got, e, api.Range)
		}
	}
	for _, n := range []int{0, 1, 65536} {
		got, e := nat.Shl(ones(1025), n)
		refuse(t, "P1.3: Shl of too many limbs", got, e, api.Range)
	}
}

func TestShr(t *testing.T) {
	for _, a := range append(numbers(), ones(2000), noughts(ones(1025), 8)) {
		for _, n := range []int{0, 1, 7, 31, 63, 64, 65, 127, 128, 200, 65536, 65537, 127999, 128000} {
			check(t, "P1.3: Shr", nat.Shr(a, n), new(big.Int).Rsh(toBig(a), uint(n)))
		}
		for _, n := range []int{-1, -63, -64, -65, math.MinInt} {
			check(t, "P1.3: Shr by less than nothing", nat.Shr(a, n), toBig(a))
		}
		if got := nat.Shr(a, math.MaxInt); len(got) != 0 {
			t.Errorf("P1.3: Shr by the most: %v", got)
		}
	}
}

func TestThereAndBack(t *testing.T) {
	s := &source{state: 362436069}
	for range 200 {
		a, b := s.number(20), s.number(20)
		times := s.below(40)
		sum := []uint64(nil)
		for range times {
			sum = nat.Add(sum, a)
		}
		product, e := nat.Mul(a, []uint64{uint64(times)})
		if e != nil || !slices.Equal(product, sum) {
			t.Errorf("P1.4: %v, %v times: %v", a, times, product)
		}
		for range times {
			sum, e = nat.Sub(sum, a)
			if e != nil {
				t.Errorf("P1.4: %v taken back: %v", a, e)
			}
		}
		if len(sum) != 0 {
			t.Errorf("P1.4: %v is left", sum)
		}
		back, e := nat.Sub(nat.Add(a, b), b)
		if e != nil || nat.Cmp(back, a) != 0 {
			t.Errorf("P1.4: %v and %v: %v", a, b, back)
		}
		n := s.below(65537)
		up, e := nat.Shl(a, n)
		if e != nil || !slices.Equal(nat.Shr(up, n), nat.Plain(a)) {
			t.Errorf("P1.4: %v moved by %v", a, n)
		}
	}
}

// answers: what all calls answer that are handed a and b.
func answers(a, b []uint64) [][]uint64 {
	diff, _ := nat.Sub(a, b)
	product, _ := nat.Mul(a, b)
	up, _ := nat.Shl(a, 0)
	higher, _ := nat.Shl(a, 64)
	return [][]uint64{nat.Plain(a), nat.Add(a, b), nat.Add(b, a), diff, product, up, higher, nat.Shr(a, 0), nat.Shr(a, -1), nat.Shr(a, 64)}
}

func TestHandedInStays(t *testing.T) {
	const spare = 12345
	for _, number := range [][]uint64{nil, {0}, {7}, {7, 0}, {top, top, 9}, {0, 5, 0, 0}, ones(9)} {
		for _, other := range [][]uint64{nil, {0}, {1, 0}, {7}, {top, 3, 0}} {
			// Room behind both, which nobody may write into.
			a := append(slices.Clone(number), spare, spare, spare)[:len(number)]
			b := append(slices.Clone(other), spare, spare, spare)[:len(other)]
			for _, got := range answers(a, b) {
				for i := range got {
					got[i]++
				}
				_ = append(got, 1, 2, 3)
			}
			nat.Cmp(a, b)
			nat.Len(a)
			full := append(slices.Clone(number), spare, spare, spare)
			if !slices.Equal(a[:len(full)], full) {
				t.Errorf("rule 3: %v became %v", full, a[:len(full)])
			}
			full = append(slices.Clone(other), spare, spare, spare)
			if !slices.Equal(b[:len(full)], full) {
				t.Errorf("rule 3: %v became %v", full, b[:len(full)])
			}
		}
	}
}

func TestSameAgain(t *testing.T) {
	for _, a := range numbers() {
		for _, b := range numbers() {
			if !slices.EqualFunc(answers(a, b), answers(noughts(a, 3), noughts(b, 1)), slices.Equal) {
				t.Errorf("rule 4: %v and %v with noughts at the top", a, b)
			}
		}
	}
}

// A factor handed in twice is two factors.
func TestOneHandedInTwice(t *testing.T) {
	for _, a := range numbers() {
		check(t, "P1.2: Add", nat.Add(a, a), new(big.Int).Lsh(toBig(a), 1))
		product, e := nat.Mul(a, a)
		check(t, "P1.2: Mul", product, new(big.Int).Mul(toBig(a), toBig(a)))
		diff, e2 := nat.Sub(a, a)
		if e != nil || e2 != nil || len(diff) != 0 {
			t.Errorf("P1.2: %v less itself: %v", a, diff)
		}
	}
}
