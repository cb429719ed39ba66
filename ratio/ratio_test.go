package ratio_test

import (
	"errors"
	"fmt"
	"math"
	"math/big"
	"slices"
	"testing"

	"outrigger/api"
	"outrigger/ratio"
	"outrigger/whole"
)

const top = math.MaxUint64

// ones: n limbs, all of whose bits are 1.
func ones(n int) []uint64 { return slices.Repeat([]uint64{top}, n) }

// noughts: a number with n noughts more at its top.
func noughts(a []uint64, n int) []uint64 {
	return append(slices.Clone(a), make([]uint64, n)...)
}

// power: 2^(64 n).
func power(n int) []uint64 { return append(make([]uint64, n), 1) }

// above and below: whole numbers of these limbs.
func above(mag ...uint64) api.Int { return api.Int{Mag: mag} }
func below(mag ...uint64) api.Int { return api.Int{Neg: true, Mag: mag} }

// over: a ratio as it stands, right or not.
func over(num, den api.Int) api.Ratio { return api.Ratio{Num: num, Den: den} }

func small(num, den int64) api.Ratio { return over(whole.Of(num), whole.Of(den)) }

// sameInt: field by field, so that what isn't plain is no other number's like.
func sameInt(a, b api.Int) bool { return a.Neg == b.Neg && slices.Equal(a.Mag, b.Mag) }

func same(a, b api.Ratio) bool { return sameInt(a.Num, b.Num) && sameInt(a.Den, b.Den) }

// tell: a number for a remark, of many limbs only how many.
func tell(a api.Int) string {
	if len(a.Mag) > 20 {
		return fmt.Sprintf("{%v [%d limbs]}", a.Neg, len(a.Mag))
	}
	return fmt.Sprint(a)
}

// tells: a ratio for a remark.
func tells(r api.Ratio) string { return tell(r.Num) + " over " + tell(r.Den) }

// nothing: is it what stands beside an error?
func nothing(r api.Ratio) bool { return same(r, api.Ratio{}) }

// toBig: a number as the library has it.
func toBig(a api.Int) *big.Int {
	sum := new(big.Int)
	for i := len(a.Mag) - 1; i >= 0; i-- {
		sum.Lsh(sum, 64)
		sum.Or(sum, new(big.Int).SetUint64(a.Mag[i]))
	}
	if a.Neg {
		sum.Neg(sum)
	}
	return sum
}

// toRat: a ratio, whose Den isn't 0, as the library has it.
func toRat(r api.Ratio) *big.Rat { return new(big.Rat).SetFrac(toBig(r.Num), toBig(r.Den)) }

// isPlain, as layer 2 says.
func isPlain(a api.Int) bool {
	return len(a.Mag) == 0 && !a.Neg || len(a.Mag) > 0 && a.Mag[len(a.Mag)-1] != 0
}

// isZero: is it 0, whatever its form?
func isZero(a api.Int) bool { return toBig(a).Sign() == 0 }

// source makes the same limbs each time, edges more often than others.
type source struct{ state uint64 }

func (s *source) word() uint64 {
	s.state ^= s.state << 13
	s.state ^= s.state >> 7
	s.state ^= s.state << 17
	return s.state
}

func (s *source) below(n int) int { return int(s.word() >> 1 % uint64(n)) }

func (s *source) limbs(n int) []uint64 {
	edges := []uint64{0, 1, top, 1 << 63, 1<<63 - 1, top - 1}
	a := make([]uint64, n)
	for i := range a {
		if k := s.below(2 * len(edges)); k < len(edges) {
			a[i] = edges[k]
		} else {
			a[i] = s.word()
		}
	}
	return a
}

// numbers: edges that the document names, and others, below 0 and above, some of them not plain.
func numbers() []api.Int {
	mags := [][]uint64{
		nil, {}, {0}, {0, 0, 0}, {1}, {1, 0, 0}, {2}, {3, 0}, {4}, {6}, {12}, {15}, {1 << 40}, {1 << 63}, {top}, {top, 0}, {0, 1}, {0, 6, 0}, {1, 1}, {top, top},
		{0, 1 << 63}, {0, 0, 12}, {top, 0, 7}, ones(4), ones(6), noughts(ones(9), 5), power(5),
	}
	s := &source{state: 88172645463325252}
	for i := range 12 {
		mags = append(mags, s.limbs(1+i%6))
	}
	var list []api.Int
	for _, mag := range mags {
		list = append(list, above(mag...), below(mag...))
	}
	return list
}

// checkMake holds what Make answers of num and den, which isn't 0, against the library's.
func checkMake(t *testing.T, num, den api.Int) {
	t.Helper()
	got, e := ratio.Make(num, den)
	if e != nil {
		t.Errorf("P4.1: Make(%s, %s): %v", tell(num), tell(den), e)
		return
	}
	want := toRat(over(num, den))
	if !isPlain(got.Num) || !isPlain(got.Den) || toBig(got.Num).Cmp(want.Num()) != 0 || toBig(got.Den).Cmp(want.Denom()) != 0 {
		t.Errorf("P4.1: Make(%s, %s): %s", tell(num), tell(den), tells(got))
	}
	if !ratio.Right(got) {
		t.Errorf("P4.1: Make(%s, %s) isn't right", tell(num), tell(den))
	}
}

func TestMake(t *testing.T) {
	for _, c := range []struct {
		num, den api.Int
		want     api.Ratio
	}{
		{whole.Of(6), whole.Of(-4), small(-3, 2)}, {whole.Of(-6), whole.Of(4), small(-3, 2)}, {whole.Of(-6), whole.Of(-4), small(3, 2)}, {whole.Of(6), whole.Of(4), small(3, 2)},
		{whole.Of(3), whole.Of(2), small(3, 2)}, {whole.Of(7), whole.Of(1), small(7, 1)}, {whole.Of(7), whole.Of(-1), small(-7, 1)}, {whole.Of(12), whole.Of(4), small(3, 1)}, {whole.Of(4), whole.Of(12), small(1, 3)},
		{whole.Of(-9), whole.Of(-9), small(1, 1)}, {whole.Of(9), whole.Of(-9), small(-1, 1)}, {whole.Of(math.MinInt64), whole.Of(math.MinInt64), small(1, 1)},
		{whole.Of(0), whole.Of(-7), small(0, 1)}, {whole.Of(0), whole.Of(7), small(0, 1)}, {below(), whole.Of(5), small(0, 1)}, {below(), whole.Of(-5), small(0, 1)}, {above(), below(5), small(0, 1)},
		{below(0, 0), above(5, 0), small(0, 1)}, {below(6, 0, 0), above(4, 0), small(-3, 2)}, {above(0, 6, 0), below(0, 4), small(-3, 2)}, {below(0, 0, 1), above(0, 1), over(below(0, 1), above(1))},
		{above(0, 1), above(0, 0, 1), over(above(1), above(0, 1))}, {above(top), above(3), over(above(6148914691236517205), above(1))}, {above(top, top), below(top), over(below(1, 1), above(1))},
	} {
		if got, e := ratio.Make(c.num, c.den); e != nil || !same(got, c.want) {
			t.Errorf("P4.1: Make(%v, %v): %v %v", c.num, c.den, got, e)
		}
	}
	for _, num := range numbers() {
		for _, den := range numbers() {
			if !isZero(den) {
				checkMake(t, num, den)
			}
		}
	}
}

// Numbers that are made of others, so that more than 1 goes into both.
func TestMakeTakesOut(t *testing.T) {
	s := &source{state: 521288629}
	for i := range 200 {
		common := above(s.limbs(1 + i%5)...)
		num, e := whole.Mul(common, api.Int{Neg: i%2 > 0, Mag: s.limbs(1 + i%7)})
		den, f := whole.Mul(common, api.Int{Neg: i%3 > 0, Mag: append(s.limbs(i%4), 1+s.word()>>1)})
		if e != nil || f != nil {
			t.Fatal(e, f)
		}
		if !isZero(den) {
			checkMake(t, num, den)
		}
	}
}

func TestMakeLimbs(t *testing.T) {
	s := &source{state: 362436069}
	for i, c := range []struct{ num, den []uint64 }{
		{ones(1024), ones(768)}, {ones(768), ones(1024)}, {ones(1024), ones(1024)}, {power(1023), ones(1024)}, {ones(1024), []uint64{1}}, {[]uint64{1}, ones(1024)}, {nil, ones(1024)}, {power(1023), []uint64{0, 12}},
		{noughts(ones(1024), 7), noughts([]uint64{15}, 1030)}, {noughts([]uint64{15}, 1030), noughts(ones(1024), 1)}, {s.limbs(1024), append(s.limbs(1023), 1)},
	} {
		checkMake(t, api.Int{Neg: i%4 < 2, Mag: c.num}, api.Int{Neg: i%2 > 0, Mag: c.den})
	}
}

func TestMakeRefuses(t *testing.T) {
	for _, c := range []struct {
		num, den api.Int
		want     api.Code
	}{
		{above(3), above(), api.Zero}, {above(3), below(), api.Zero}, {above(3), above(0), api.Zero}, {below(3), below(0, 0, 0), api.Zero}, {above(), above(), api.Zero}, {below(0), below(0), api.Zero},
		{above(3), above(make([]uint64, 2000)...), api.Zero}, {above(ones(1025)...), above(), api.Zero}, {below(ones(1025)...), below(0, 0), api.Zero}, {below(ones(3000)...), above(make([]uint64, 3000)...), api.Zero},
		{above(ones(1025)...), above(1), api.Range}, {above(1), above(ones(1025)...), api.Range}, {above(ones(1025)...), below(ones(1025)...), api.Range}, {above(), below(ones(1025)...), api.Range}, {below(0), above(power(1024)...), api.Range},
		{above(power(1024)...), above(power(1024)...), api.Range}, {below(noughts(ones(1025), 9)...), above(2), api.Range}, {above(2), below(noughts(ones(1025), 9)...), api.Range}, {above(ones(4000)...), above(ones(1024)...), api.Range},
	} {
		if got, e := ratio.Make(c.num, c.den); !errors.Is(e, c.want) || !nothing(got) {
			t.Errorf("P4.1: Make(%s, %s): %v alone expected: %v", tell(c.num), tell(c.den), c.want, e)
		}
	}
}

// rights: ratios that are right.
func rights() []api.Ratio {
	return []api.Ratio{
		small(0, 1), small(1, 1), small(-1, 1), small(-3, 2), small(3, 2), small(1, 3), small(-1, 4), small(35, 64), small(math.MinInt64, 1), small(math.MinInt64, math.MaxInt64),
		over(api.Int{Mag: []uint64{}}, above(1)), over(above(0, 1), above(1)), over(below(0, 1), above(3)), over(above(1), above(0, 1)), over(above(1, 1), above(0, 0, 1)), over(below(ones(4)...), above(power(9)...)),
		over(above(ones(1024)...), above(1)), over(below(1), above(ones(1024)...)), over(below(power(1023)...), above(ones(1024)...)), over(above(ones(1024)...), above(append(ones(1023), top-1)...)),
	}
}

// wrongs: ratios that aren't right.
func wrongs() []api.Ratio {
	return []api.Ratio{
		{}, over(above(), below()), small(1, 0), small(0, 0), over(above(1), above(0)), over(above(1), below(0, 0)),
		small(1, -2), small(-1, -2), small(0, -1), small(7, -1), over(above(1), below(0, 1)),
		small(2, 4), small(-2, 4), small(0, 2), small(6, 3), small(5, 5), small(35, 65), over(above(0, 1), above(2)), over(above(top), above(3)), over(below(ones(6)...), above(ones(4)...)), over(above(), above(0, 1)),
		over(below(), above(1)), over(above(0), above(1)), over(below(0), above(1)), over(above(3, 0), above(2)), over(below(3, 0, 0), above(2)), over(above(3), above(2, 0)), over(above(1), above(3, 0)), over(above(1), above(1, 0)),
		over(above(), above(1, 0)), over(above(1), below(2, 0)),
		over(above(noughts(ones(1024), 1)...), above(1)), over(above(1), above(noughts(ones(1024), 1)...)),
		over(above(ones(1025)...), above(1)), over(above(1), above(ones(1025)...)), over(below(ones(1025)...), above(power(1024)...)), over(above(power(1024)...), above(3)), over(above(ones(1024)...), above(ones(1024)...)),
	}
}

func TestRight(t *testing.T) {
	for _, r := range rights() {
		if !ratio.Right(r) {
			t.Errorf("P4.1: %s is right", tells(r))
		}
	}
	for _, r := range wrongs() {
		if ratio.Right(r) {
			t.Errorf("P4.1: %s isn't right", tells(r))
		}
	}
	for _, num := range numbers() {
		for _, den := range numbers() {
			r := over(num, den)
			goes := new(big.Int).GCD(nil, nil, new(big.Int).Abs(toBig(num)), new(big.Int).Abs(toBig(den)))
			want := isPlain(num) && isPlain(den) && toBig(den).Sign() > 0 && goes.Cmp(big.NewInt(1)) == 0
			if ratio.Right(r) != want {
				t.Errorf("P4.1: Right(%v): %v", r, !want)
			}
		}
	}
}

// ratios: right ones and others, whose Den isn't 0.
func ratios() []api.Ratio {
	list := numbers()
	var all []api.Ratio
	for i := range list {
		for _, k := range []int{3, 8, 13} {
			if den := list[(i*7+k)%len(list)]; !isZero(den) {
				all = append(all, over(list[i], den))
			}
		}
	}
	for num := int64(-3); num <= 3; num++ {
		for den := int64(-4); den <= 4; den++ {
			if den != 0 {
				all = append(all, small(num, den))
			}
		}
	}
	return all
}

func TestCmp(t *testing.T) {
	for _, c := range []struct {
		a, b api.Ratio
		want int
	}{
		{small(1, 2), small(2, 3), -1}, {small(-1, 2), small(-2, 3), 1}, {small(-1, 2), small(1, 3), -1}, {small(1, 2), small(1, 2), 0}, {small(2, 4), small(1, 2), 0}, {small(1, -2), small(1, 3), -1}, {small(-1, -2), small(1, 3), 1},
		{small(1, -2), small(-3, 6), 0}, {small(-1, -2), small(-1, -3), 1}, {small(1, -2), small(1, -3), -1}, {small(0, -7), small(0, 3), 0}, {over(below(), above(9)), small(0, 1), 0}, {over(below(0, 0), below(9, 0)), small(0, 1), 0}, {small(0, -5), small(1, 9), -1},
		{over(above(3, 0), above(2, 0, 0)), small(3, 2), 0}, {over(above(0, 1), above(0, 2)), small(1, 2), 0}, {over(above(1, 1), above(0, 1)), small(1, 1), 1}, {over(below(1, 1), above(0, 1)), small(-1, 1), -1},
	} {
		if got, e := ratio.Cmp(c.a, c.b); e != nil || got != c.want {
			t.Errorf("P4.2: Cmp(%v, %v): %v %v", c.a, c.b, got, e)
		}
		if got, e := ratio.Cmp(c.b, c.a); e != nil || got != -c.want {
			t.Errorf("P4.2: Cmp(%v, %v): %v %v", c.b, c.a, got, e)
		}
	}
	all := ratios()
	rats := make([]*big.Rat, len(all))
	for i, r := range all {
		rats[i] = toRat(r)
	}
	for i, a := range all {
		for k, b := range all {
			if got, e := ratio.Cmp(a, b); e != nil || got != rats[i].Cmp(rats[k]) {
				t.Errorf("P4.2: Cmp(%v, %v): %v %v", a, b, got, e)
			}
		}
	}
}

func TestCmpLimbs(t *testing.T) {
	one, half := small(1, 1), noughts(ones(512), 600)
	for _, c := range []struct{ a, b api.Ratio }{
		{over(above(ones(512)...), above(ones(511)...)), over(above(ones(511)...), above(ones(512)...))}, {over(above(ones(512)...), below(ones(512)...)), over(below(ones(512)...), above(ones(512)...))},
		{over(above(ones(1023)...), above(1)), one}, {over(below(1), above(ones(1023)...)), one}, {over(above(ones(1023)...), below(ones(1023)...)), small(-1, 1)}, {over(above(ones(1023)...), above(power(1022)...)), over(above(top), above(1))},
		{over(below(half...), above(3)), over(above(4), above(half...))}, {over(above(half...), below(3)), over(above(half...), above(4))}, {over(above(power(511)...), above(ones(511)...)), over(below(power(512)...), below(ones(512)...))},
		{over(above(), above(ones(1023)...)), one}, {over(above(), above(ones(1024)...)), over(below(), below(ones(1024)...))}, {over(below(0, 0), below(ones(1023)...)), over(below(1), above(ones(1024)...))},
	} {
		want := toRat(c.a).Cmp(toRat(c.b))
		if got, e := ratio.Cmp(c.a, c.b); e != nil || got != want {
			t.Errorf("P4.2: Cmp(%s, %s): %v %v, want %v", tells(c.a), tells(c.b), got, e, want)
		}
		if got, e := ratio.Cmp(c.b, c.a); e != nil || got != -want {
			t.Errorf("P4.2: Cmp(%s, %s): %v %v, want %v", tells(c.b), tells(c.a), got, e, -want)
		}
	}
}

func TestCmpRefuses(t *testing.T) {
	long := above(ones(1024)...)
	for _, c := range []struct {
		a, b api.Ratio
		want api.Code
	}{
		{small(1, 2), small(1, 0), api.Zero}, {small(1, 0), small(1, 0), api.Zero}, {small(0, 0), small(0, 1), api.Zero}, {small(1, 2), api.Ratio{}, api.Zero}, {small(-1, 2), over(above(1), below()), api.Zero}, {small(1, 2), over(above(1), below(0, 0, 0)), api.Zero},
		{over(long, long), over(long, above()), api.Zero}, {over(long, long), over(long, above(0)), api.Zero}, {over(above(ones(3000)...), above(1)), small(5, 0), api.Zero}, {over(long, above(ones(3000)...)), over(above(1), above(make([]uint64, 2000)...)), api.Zero},
		// One product may be, the other one not; of the same ratio twice neither may.
		{over(long, above(1)), small(1, 1), api.Range}, {over(above(1), long), small(1, 1), api.Range}, {over(long, long), over(long, long), api.Range}, {over(above(ones(513)...), above(1)), over(above(1), above(ones(512)...)), api.Range},
		{over(above(1), above(ones(513)...)), over(above(ones(512)...), above(1)), api.Range}, {over(above(ones(513)...), above(ones(512)...)), over(above(ones(513)...), above(ones(512)...)), api.Range},
		// What the signs would tell alone, and a 0.
		{over(below(ones(1024)...), above(1)), small(1, 1), api.Range}, {over(below(1), long), small(1, 1), api.Range}, {small(0, 1), over(above(1), above(ones(1025)...)), api.Range}, {over(below(), above(1)), over(above(1), below(ones(1025)...)), api.Range},
		{over(above(ones(1025)...), above(1)), small(0, 1), api.Range}, {over(above(noughts(ones(1024), 3)...), above(1, 0)), small(1, 1), api.Range},
	} {
		for _, pair := range [][2]api.Ratio{{c.a, c.b}, {c.b, c.a}} {
			if got, e := ratio.Cmp(pair[0], pair[1]); !errors.Is(e, c.want) || got != 0 {
				t.Errorf("P4.2: Cmp(%s, %s): %v alone expected: %v %v", tells(pair[0]), tells(pair[1]), c.want, got, e)
			}
		}
	}
}

func TestText(t *testing.T) {
	for _, c := range []struct {
		r    api.Ratio
		want string
	}{
		{small(0, 1), "0"}, {small(1, 1), "1"}, {small(-1, 1), "-1"}, {small(-3, 2), "-3/2"}, {small(3, 2), "3/2"}, {small(1, 10), "1/10"}, {small(-100, 1), "-100"}, {small(math.MinInt64, 3), "-9223372036854775808/3"},
		{over(above(0, 1), above(1)), "18446744073709551616"}, {over(below(1), above(0, 1)), "-1/18446744073709551616"}, {over(below(1, 1), above(0, 1)), "-18446744073709551617/18446744073709551616"}, {over(above(2), above(1, 1)), "2/18446744073709551617"},
	} {
		if got, e := ratio.Text(c.r); e != nil || got != c.want {
			t.Errorf("P4.3: Text(%v): %q %v", c.r, got, e)
		}
	}
	for _, r := range rights() {
		if got, e := ratio.Text(r); e != nil || got != toRat(r).RatString() {
			t.Errorf("P4.3: Text(%s): %.30q %v", tells(r), got, e)
		}
	}
	for _, r := range wrongs() {
		if got, e := ratio.Text(r); !errors.Is(e, api.Zero) || got != "" {
			t.Errorf("P4.3: Text(%s): %.30q %v", tells(r), got, e)
		}
	}
}

func TestOnlyOneIsRight(t *testing.T) {
	all := ratios()
	made := make([]api.Ratio, len(all))
	for i, r := range all {
		var e error
		made[i], e = ratio.Make(r.Num, r.Den)
		as, f := ratio.Cmp(made[i], r)
		if e != nil || f != nil || as != 0 || !ratio.Right(made[i]) {
			t.Errorf("P4.4: %v made of %v: %v %v", made[i], r, e, f)
		}
		if ratio.Right(r) && !same(r, made[i]) {
			t.Errorf("P4.4: %v is right, and %v is made of it", r, made[i])
		}
	}
	for i, a := range all {
		for k, b := range all {
			if as, e := ratio.Cmp(a, b); e != nil || (as == 0) != same(made[i], made[k]) {
				t.Errorf("P4.4: %v and %v: %v", a, b, e)
			}
		}
	}
	for _, r := range rights() {
		if again, e := ratio.Make(r.Num, r.Den); e != nil || !same(again, r) {
			t.Errorf("P4.4: %s made again: %s %v", tells(r), tells(again), e)
		}
	}
}

const spare = 12345

// withRoom: a number with room behind its limbs, which nobody may write into.
func withRoom(a api.Int) api.Int {
	return api.Int{Neg: a.Neg, Mag: append(slices.Clone(a.Mag), spare, spare, spare)[:len(a.Mag)]}
}

// stays: is a number that was handed in what it was, and the room behind it, too?
func stays(a, was api.Int) bool {
	full := append(slices.Clone(was.Mag), spare, spare, spare)
	return slices.Equal(a.Mag[:len(full)], full)
}

// spoil writes into a list that was answered, and behind it.
func spoil(a []uint64) {
	for i := range a {
		a[i]++
	}
	_ = append(a, 1, 2, 3)
}

func TestHandedInStays(t *testing.T) {
	for _, num := range numbers() {
		for _, den := range numbers() {
			a, b := withRoom(num), withRoom(den)
			made, _ := ratio.Make(a, b)
			was := slices.Clone(made.Den.Mag)
			spoil(made.Num.Mag)
			if !slices.Equal(made.Den.Mag, was) {
				t.Errorf("rule 3: Num and Den of what %v and %v make share memory", num, den)
			}
			spoil(made.Den.Mag)
			ratio.Right(over(a, b))
			ratio.Text(over(a, b))
			ratio.Cmp(over(a, b), over(b, a))
			if !stays(a, num) || !stays(b, den) {
				t.Errorf("rule 3: %v and %v became %v and %v", num, den, a, b)
			}
		}
	}
}

// One list as both numbers is two numbers.
func TestOneListTwice(t *testing.T) {
	for _, a := range numbers() {
		if isZero(a) {
			continue
		}
		twice := api.Int{Neg: !a.Neg, Mag: a.Mag}
		got, e := ratio.Make(a, twice)
		if as, f := ratio.Cmp(over(a, twice), small(-1, 1)); e != nil || f != nil || as != 0 || !same(got, small(-1, 1)) {
			t.Errorf("P4.1: %v over itself, with the other sign: %v", a, got)
		}
	}
}

func TestSameAgain(t *testing.T) {
	more := func(a api.Int) api.Int { return api.Int{Neg: a.Neg, Mag: noughts(a.Mag, 3)} }
	for _, r := range ratios() {
		long := over(more(r.Num), more(r.Den))
		one, e := ratio.Make(r.Num, r.Den)
		two, f := ratio.Make(long.Num, long.Den)
		if e != nil || f != nil || !same(one, two) {
			t.Errorf("rule 4: %v with noughts at the top: %v, %v", r, one, two)
		}
		if as, e := ratio.Cmp(long, r); e != nil || as != 0 {
			t.Errorf("rule 4: %v held against itself with noughts at the top: %v %v", r, as, e)
		}
	}
}
