package whole_test

import (
	"errors"
	"math"
	"math/big"
	"slices"
	"testing"

	"outrigger/api"
	"outrigger/whole"
)

const top = math.MaxUint64

// limbs: n of them, all of whose bits are 1, and m noughts above.
func limbs(n, m int) []uint64 {
	return append(slices.Repeat([]uint64{top}, n), make([]uint64, m)...)
}

// same: field by field, so that what isn't plain is no other number's like.
func same(a, b api.Int) bool { return a.Neg == b.Neg && slices.Equal(a.Mag, b.Mag) }

// toBig: a number as the library has it.
func toBig(a api.Int) *big.Int {
	sum := new(big.Int)
	for i := len(a.Mag) - 1; i >= 0; i-- {
		sum.Lsh(sum, 64)
		sum.Or(sum, new(big.Int).SetUint64(a.Mag[i]))
	}
	if a.Neg {
		sum.Neg(sum)
	}
	return sum
}

// numbers: below 0 and above, near to each other and far apart, some of them not plain.
func numbers() []api.Int {
	mags := [][]uint64{
		nil, {}, {0}, {0, 0, 0}, {1}, {1, 0}, {2}, {3, 0, 0}, {5}, {1<<63 - 1}, {1 << 63}, {1<<63 + 1, 0}, {top - 1}, {top}, {top, 0},
		{0, 1}, {1, 1}, {0, 2, 0}, {top, top}, {0, 0, 1}, {1, 0, 1, 0}, {top, 0, 7}, {7, top, 0, 0, 9}, limbs(9, 0), limbs(17, 3),
	}
	var list []api.Int
	for _, mag := range mags {
		list = append(list, api.Int{Mag: mag}, api.Int{Neg: true, Mag: mag})
	}
	return list
}

// check holds an answer against the library's, and asks that it be plain.
func check(t *testing.T, what string, got api.Int, want *big.Int) {
	t.Helper()
	if len(got.Mag) == 0 && got.Neg || len(got.Mag) > 0 && got.Mag[len(got.Mag)-1] == 0 {
		t.Errorf("%s: not plain: %v", what, got)
	}
	if toBig(got).Cmp(want) != 0 {
		t.Errorf("%s: got %v, want %v", what, got, want)
	}
}

// refuse asks for Range, and for nothing beside it.
func refuse(t *testing.T, what string, got api.Int, e error) {
	t.Helper()
	if !errors.Is(e, api.Range) || got.Neg || len(got.Mag) != 0 {
		t.Errorf("%s: got %v and %v, want %v alone", what, got, e, api.Range)
	}
}

func TestOf(t *testing.T) {
	for _, c := range []struct {
		v    int64
		want api.Int
	}{
		{0, api.Int{}}, {1, api.Int{Mag: []uint64{1}}}, {-1, api.Int{Neg: true, Mag: []uint64{1}}},
		{math.MaxInt64, api.Int{Mag: []uint64{1<<63 - 1}}}, {-math.MaxInt64, api.Int{Neg: true, Mag: []uint64{1<<63 - 1}}},
		{math.MinInt64, api.Int{Neg: true, Mag: []uint64{1 << 63}}},
	} {
		if got := whole.Of(c.v); !same(got, c.want) {
			t.Errorf("P2.1: Of(%v): %v", c.v, got)
		}
	}
	for shift := range 64 {
		for _, v := range []int64{1 << shift, -1 << shift, 1<<shift - 1, 1 - 1<<shift} {
			check(t, "P2.1: Of", whole.Of(v), big.NewInt(v))
		}
	}
}

func TestPlain(t *testing.T) {
	for _, c := range []struct{ a, want api.Int }{
		{api.Int{Neg: true}, api.Int{}}, {api.Int{Neg: true, Mag: []uint64{}}, api.Int{}}, {api.Int{Neg: true, Mag: []uint64{0, 0}}, api.Int{}},
		{api.Int{Mag: []uint64{0}}, api.Int{}}, {api.Int{Neg: true, Mag: []uint64{0, 7, 0}}, api.Int{Neg: true, Mag: []uint64{0, 7}}},
		{api.Int{Neg: true, Mag: limbs(2000, 50)}, api.Int{Neg: true, Mag: limbs(2000, 0)}},
	} {
		if got := whole.Plain(c.a); !same(got, c.want) {
			t.Errorf("P2.1: Plain(%v): %v", c.a, got)
		}
	}
	for _, a := range numbers() {
		check(t, "P2.1: Plain", whole.Plain(a), toBig(a))
	}
}

func TestSign(t *testing.T) {
	for _, a := range append(numbers(), api.Int{Neg: true, Mag: append(make([]uint64, 40), 1)}, api.Int{Neg: true, Mag: make([]uint64, 40)}) {
		if got := whole.Sign(a); got != toBig(a).Sign() {
			t.Errorf("P2.1: Sign(%v): %v", a, got)
		}
	}
}

func TestNeg(t *testing.T) {
	for _, a := range numbers() {
		check(t, "P2.1: Neg", whole.Neg(a), new(big.Int).Neg(toBig(a)))
		if got := whole.Neg(whole.Neg(a)); !same(got, whole.Plain(a)) {
			t.Errorf("P2.1: Neg there and back of %v: %v", a, got)
		}
	}
	for _, a := range []api.Int{{}, {Neg: true}, {Mag: []uint64{0, 0}}, {Neg: true, Mag: []uint64{0}}} {
		if got := whole.Neg(a); !same(got, api.Int{}) {
			t.Errorf("P2.1: Neg(%v): %v", a, got)
		}
	}
}

func TestCmp(t *testing.T) {
	for _, a := range numbers() {
		for _, b := range numbers() {
			if got, want := whole.Cmp(a, b), toBig(a).Cmp(toBig(b)); got != want {
				t.Errorf("P2.1: Cmp(%v, %v): %v", a, b, got)
			}
		}
	}
	for _, c := range []struct {
		a, b api.Int
		want int
	}{
		{api.Int{Neg: true}, api.Int{Mag: []uint64{0, 0}}, 0}, {api.Int{Neg: true, Mag: []uint64{0}}, api.Int{Neg: true, Mag: []uint64{1}}, 1},
		{api.Int{Neg: true, Mag: []uint64{2}}, api.Int{Neg: true, Mag: []uint64{1, 0}}, -1}, {api.Int{Neg: true, Mag: []uint64{0, 1}}, api.Int{Mag: []uint64{1}}, -1},
		{whole.Of(math.MinInt64), whole.Of(math.MaxInt64), -1}, {whole.Of(math.MinInt64), whole.Of(-math.MaxInt64), -1},
	} {
		if got := whole.Cmp(c.a, c.b); got != c.want {
			t.Errorf("P2.1: Cmp(%v, %v): %v", c.a, c.b, got)
		}
	}
}

func TestAddAndSub(t *testing.T) {
	for _, a := range numbers() {
		for _, b := range numbers() {
			check(t, "P2.2: Add", whole.Add(a, b), new(big.Int).Add(toBig(a), toBig(b)))
			check(t, "P2.2: Sub", whole.Sub(a, b), new(big.Int).Sub(toBig(a), toBig(b)))
		}
	}
	if got := whole.Add(whole.Of(-3), whole.Of(5)); !same(got, whole.Of(2)) {
		t.Errorf("P2.2: the example: %v", got)
	}
	// What cancels leaves no sign, whichever of both has noughts at the top.
	for _, a := range numbers() {
		long := api.Int{Neg: a.Neg, Mag: append(slices.Clone(a.Mag), 0, 0)}
		for _, got := range []api.Int{whole.Sub(a, long), whole.Sub(long, a), whole.Add(a, whole.Neg(long)), whole.Add(whole.Neg(a), long)} {
			if !same(got, api.Int{}) {
				t.Errorf("P2.2: %v less itself: %v", a, got)
			}
		}
	}
}

// Sums and differences have no limit, products have.
func TestManyLimbs(t *testing.T) {
	long, one := api.Int{Neg: true, Mag: limbs(3000, 1)}, whole.Of(1)
	check(t, "P2.2: Add of many limbs", whole.Add(long, one), new(big.Int).Add(toBig(long), toBig(one)))
	check(t, "P2.2: Sub of many limbs", whole.Sub(long, one), new(big.Int).Sub(toBig(long), toBig(one)))
	check(t, "P2.1: Neg of many limbs", whole.Neg(long), new(big.Int).Neg(toBig(long)))
	if got := whole.Cmp(whole.Sub(long, one), long); got != -1 {
		t.Errorf("P2.1: Cmp of many limbs: %v", got)
	}
}

func TestMul(t *testing.T) {
	for _, a := range numbers() {
		for _, b := range numbers() {
			got, e := whole.Mul(a, b)
			if e != nil {
				t.Errorf("P2.2: Mul(%v, %v): %v", a, b, e)
			}
			check(t, "P2.2: Mul", got, new(big.Int).Mul(toBig(a), toBig(b)))
		}
	}
	if got, e := whole.Mul(whole.Of(-3), whole.Of(5)); e != nil || !same(got, whole.Of(-15)) {
		t.Errorf("P2.2: the example: %v %v", got, e)
	}
}

func TestMulLimbs(t *testing.T) {
	for _, neg := range []bool{false, true} {
		for _, c := range []struct{ a, b []uint64 }{{limbs(512, 0), limbs(512, 9)}, {limbs(1023, 0), limbs(1, 0)}, {limbs(1024, 3), nil}, {limbs(0, 2), limbs(1024, 0)}} {
			a, b := api.Int{Neg: neg, Mag: c.a}, api.Int{Neg: true, Mag: c.b}
			got, e := whole.Mul(a, b)
			if e != nil {
				t.Errorf("P2.2: Mul of the most limbs: %v", e)
			}
			check(t, "P2.2: Mul of the most limbs", got, new(big.Int).Mul(toBig(a), toBig(b)))
		}
		for _, c := range []struct{ a, b []uint64 }{{limbs(512, 0), limbs(513, 0)}, {limbs(1024, 0), limbs(1, 7)}, {limbs(0, 1), limbs(1025, 0)}, {limbs(1025, 0), nil}} {
			got, e := whole.Mul(api.Int{Neg: neg, Mag: c.a}, api.Int{Neg: true, Mag: c.b})
			refuse(t, "P2.2: Mul of too many limbs", got, e)
		}
	}
}

func TestShl(t *testing.T) {
	for _, a := range append(numbers(), api.Int{Neg: true, Mag: limbs(1024, 8)}) {
		for _, n := range []int{0, 1, 63, 64, 65, 200, 65535, 65536} {
			got, e := whole.Shl(a, n)
			if e != nil {
				t.Errorf("P2.2: Shl(%v, %v): %v", a, n, e)
			}
			check(t, "P2.2: Shl", got, new(big.Int).Lsh(toBig(a), uint(n)))
		}
		for _, n := range []int{-1, -64, math.MinInt, 65537, math.MaxInt} {
			got, e := whole.Shl(a, n)
			refuse(t, "P2.2: Shl by what is out of range", got, e)
		}
	}
	got, e := whole.Shl(api.Int{Neg: true, Mag: limbs(1025, 0)}, 0)
	refuse(t, "P2.2: Shl of too many limbs", got, e)
}

func product(t *testing.T, a, b api.Int) api.Int {
	t.Helper()
	got, e := whole.Mul(a, b)
	if e != nil {
		t.Errorf("P2.3: Mul(%v, %v): %v", a, b, e)
	}
	return got
}

func TestWholeNumbers(t *testing.T) {
	list := numbers()
	for i, a := range list {
		for j, b := range list {
			c := list[(7*i+11*j+3)%len(list)]
			if !same(whole.Add(a, b), whole.Add(b, a)) || !same(whole.Add(whole.Add(a, b), c), whole.Add(a, whole.Add(b, c))) {
				t.Errorf("P2.3: the sum of %v, %v and %v", a, b, c)
			}
			if !same(product(t, a, b), product(t, b, a)) || !same(product(t, product(t, a, b), c), product(t, a, product(t, b, c))) {
				t.Errorf("P2.3: the product of %v, %v and %v", a, b, c)
			}
			if !same(product(t, whole.Add(a, b), c), whole.Add(product(t, a, c), product(t, b, c))) {
				t.Errorf("P2.3: the sum of %v and %v, times %v", a, b, c)
			}
			if !same(whole.Sub(a, b), whole.Add(a, whole.Neg(b))) || !same(whole.Sub(a, b), whole.Neg(whole.Sub(b, a))) {
				t.Errorf("P2.3: %v less %v", a, b)
			}
			if whole.Cmp(a, b) != whole.Sign(whole.Sub(a, b)) || whole.Cmp(a, b) != -whole.Cmp(b, a) {
				t.Errorf("P2.3: %v held against %v", a, b)
			}
		}
		if up, e := whole.Shl(a, 70); e != nil || !same(up, product(t, a, api.Int{Mag: []uint64{0, 64}})) {
			t.Errorf("P2.3: %v moved up: %v", a, up)
		}
	}
}

// answers: what all calls answer that are handed a and b.
func answers(a, b api.Int) []api.Int {
	times, _ := whole.Mul(a, b)
	stay, _ := whole.Shl(a, 0)
	up, _ := whole.Shl(a, 64)
	return []api.Int{whole.Plain(a), whole.Neg(a), whole.Add(a, b), whole.Add(b, a), whole.Sub(a, b), whole.Sub(b, a), times, stay, up}
}

func TestHandedInStays(t *testing.T) {
	const spare = 12345
	// Room behind a list, which nobody may write into.
	withRoom := func(a api.Int) api.Int {
		return api.Int{Neg: a.Neg, Mag: append(slices.Clone(a.Mag), spare, spare, spare)[:len(a.Mag)]}
	}
	stays := func(a, was api.Int) bool {
		full := append(slices.Clone(was.Mag), spare, spare, spare)
		return slices.Equal(a.Mag[:len(full)], full)
	}
	for _, number := range numbers() {
		for _, other := range numbers() {
			a, b := withRoom(number), withRoom(other)
			for _, got := range answers(a, b) {
				for i := range got.Mag {
					got.Mag[i]++
				}
				_ = append(got.Mag, 1, 2, 3)
			}
			whole.Cmp(a, b)
			whole.Sign(a)
			if !stays(a, number) || !stays(b, other) {
				t.Errorf("rule 3: %v and %v became %v and %v", number, other, a, b)
			}
		}
	}
}

func TestSameAgain(t *testing.T) {
	for _, a := range numbers() {
		for _, b := range numbers() {
			if !slices.EqualFunc(answers(a, b), answers(whole.Plain(a), whole.Plain(b)), same) {
				t.Errorf("rule 4: %v and %v, plain and not", a, b)
			}
		}
	}
}
