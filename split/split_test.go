package split_test

import (
	"errors"
	"math"
	"math/big"
	"slices"
	"strings"
	"testing"

	"outrigger/api"
	"outrigger/nat"
	"outrigger/split"
	"outrigger/whole"
)

const top = math.MaxUint64

// ones: n limbs, all of whose bits are 1.
func ones(n int) []uint64 { return slices.Repeat([]uint64{top}, n) }

// noughts: a number with n noughts more at its top.
func noughts(a []uint64, n int) []uint64 {
	return append(slices.Clone(a), make([]uint64, n)...)
}

// power: 2^(64 n).
func power(n int) []uint64 { return append(make([]uint64, n), 1) }

// toBig: a number as the library has it.
func toBig(a []uint64) *big.Int {
	sum := new(big.Int)
	for i := len(a) - 1; i >= 0; i-- {
		sum.Lsh(sum, 64)
		sum.Or(sum, new(big.Int).SetUint64(a[i]))
	}
	return sum
}

// fromBig: a number from 0 on as limbs.
func fromBig(b *big.Int) []uint64 {
	var a []uint64
	low := new(big.Int).SetUint64(top)
	for rest := new(big.Int).Set(b); rest.Sign() > 0; rest.Rsh(rest, 64) {
		a = append(a, new(big.Int).And(rest, low).Uint64())
	}
	return a
}

// bigText: a whole number as the library tells it.
func bigText(a api.Int) string {
	b := toBig(a.Mag)
	if a.Neg {
		b.Neg(b)
	}
	return b.String()
}

// source makes the same limbs each time, edges more often than others.
type source struct{ state uint64 }

func (s *source) word() uint64 {
	s.state ^= s.state << 13
	s.state ^= s.state >> 7
	s.state ^= s.state << 17
	return s.state
}

func (s *source) below(n int) int { return int(s.word() >> 1 % uint64(n)) }

func (s *source) limb() uint64 {
	edges := []uint64{0, 1, top, 1 << 63, 1<<63 - 1, top - 1}
	if k := s.below(2 * len(edges)); k < len(edges) {
		return edges[k]
	}
	return s.word()
}

func (s *source) limbs(n int) []uint64 {
	a := make([]uint64, n)
	for i := range a {
		a[i] = s.limb()
	}
	return a
}

// numbers: edges that the document names, and others.
func numbers() [][]uint64 {
	list := [][]uint64{
		nil, {}, {0}, {0, 0, 0}, {1}, {1, 0, 0}, {2}, {3, 0}, {5}, {6}, {17}, {1 << 40}, {1 << 63}, {1<<63 + 1}, {top}, {top, 0}, {0, 1}, {1, 1, 0}, {0, 1 << 63}, {1, 1 << 63},
		{top, top}, {top, 1 << 63}, {0, 0, 1}, {0, 0, 1 << 63}, {1, 0, 1 << 63}, {top, 0, 7}, {0, 0, 1 << 63, 1<<63 - 1}, {0, top - 1, 1 << 63}, ones(7), noughts(ones(9), 5), power(5),
	}
	s := &source{state: 88172645463325252}
	for i := range 60 {
		list = append(list, s.limbs(1+i%9))
	}
	return list
}

// check holds an answer against the library's, and asks that it be plain.
func check(t *testing.T, what string, got []uint64, want *big.Int) {
	t.Helper()
	if len(got) > 0 && got[len(got)-1] == 0 {
		t.Errorf("%s: not plain: %v", what, got)
	}
	if toBig(got).Cmp(want) != 0 {
		t.Errorf("%s: got %v, want %v", what, got, want)
	}
}

// checkQuo holds both that Quo answers of a and b, which isn't 0, against the library's.
func checkQuo(t *testing.T, a, b []uint64) {
	t.Helper()
	q, r, e := split.Quo(a, b)
	if e != nil {
		t.Errorf("P3.1: Quo(%v, %v): %v", a, b, e)
	}
	wantQ, wantR := new(big.Int).QuoRem(toBig(a), toBig(b), new(big.Int))
	check(t, "P3.1: how often", q, wantQ)
	check(t, "P3.1: what is left", r, wantR)
}

func TestQuo(t *testing.T) {
	q, r, e := split.Quo([]uint64{17}, []uint64{5})
	if e != nil || !slices.Equal(q, []uint64{3}) || !slices.Equal(r, []uint64{2}) {
		t.Errorf("P3.1: the example: %v %v %v", q, r, e)
	}
	for _, a := range numbers() {
		for _, b := range numbers() {
			if nat.Len(b) > 0 {
				checkQuo(t, a, b)
			}
		}
	}
}

// Just so much, one less and one more than so often b: where a guess is most easily wrong.
func TestQuoNearby(t *testing.T) {
	for _, b := range numbers() {
		if nat.Len(b) == 0 {
			continue
		}
		for _, often := range numbers() {
			product, e := nat.Mul(b, often)
			if e != nil {
				t.Fatal(e)
			}
			checkQuo(t, product, b)
			checkQuo(t, nat.Add(product, []uint64{1}), b)
			if less, e := nat.Sub(product, []uint64{1}); e == nil {
				checkQuo(t, less, b)
			}
		}
	}
}

func TestQuoLimbs(t *testing.T) {
	s := &source{state: 362436069}
	longest := [][]uint64{ones(1024), power(1023), append(make([]uint64, 1023), 1<<63), s.limbs(1024), noughts(ones(1024), 40)}
	for _, n := range []int{1, 2, 3, 511, 512, 513, 1022, 1023, 1024} {
		for _, a := range longest {
			for _, b := range [][]uint64{ones(n), power(n - 1), append(make([]uint64, n-1), 1<<63), append(s.limbs(n-1), 3), noughts(ones(n), 1100)} {
				checkQuo(t, a, b)
				checkQuo(t, b, a)
			}
		}
	}
}

func TestQuoRefuses(t *testing.T) {
	for _, c := range []struct {
		a, b []uint64
		want api.Code
	}{
		{nil, nil, api.Zero}, {[]uint64{5}, nil, api.Zero}, {[]uint64{5}, []uint64{}, api.Zero}, {[]uint64{5}, []uint64{0}, api.Zero}, {[]uint64{5, 6}, []uint64{0, 0, 0}, api.Zero},
		{[]uint64{0}, make([]uint64, 2000), api.Zero}, {ones(1025), nil, api.Zero}, {ones(1025), []uint64{0, 0}, api.Zero},
		{ones(1025), []uint64{1}, api.Range}, {ones(1025), ones(1025), api.Range}, {[]uint64{1}, ones(1025), api.Range}, {nil, ones(1025), api.Range}, {power(1024), power(3), api.Range},
		{noughts(ones(1025), 2), ones(1024), api.Range}, {ones(3000), ones(2000), api.Range},
	} {
		q, r, e := split.Quo(c.a, c.b)
		if !errors.Is(e, c.want) || len(q) != 0 || len(r) != 0 {
			t.Errorf("P3.1: Quo of %d and %d limbs: %v alone expected: %v", len(c.a), len(c.b), c.want, e)
		}
	}
}

// checkGcd holds an answer against the library's.
func checkGcd(t *testing.T, a, b []uint64) {
	t.Helper()
	got, e := split.Gcd(a, b)
	if e != nil {
		t.Errorf("P3.2: Gcd(%v, %v): %v", a, b, e)
	}
	check(t, "P3.2: Gcd", got, new(big.Int).GCD(nil, nil, toBig(a), toBig(b)))
}

func TestGcd(t *testing.T) {
	for _, c := range []struct{ a, b, want []uint64 }{
		{[]uint64{12}, []uint64{18}, []uint64{6}}, {nil, nil, nil}, {[]uint64{0}, []uint64{0, 0}, nil}, {nil, []uint64{7, 0}, []uint64{7}}, {[]uint64{8, 0}, []uint64{0, 0}, []uint64{8}},
		{[]uint64{0, 6}, nil, []uint64{0, 6}}, {[]uint64{1}, []uint64{0, 9}, []uint64{1}}, {[]uint64{0, 0, 1}, []uint64{0, 4}, []uint64{0, 4}}, {[]uint64{0, 12}, []uint64{0, 18}, []uint64{0, 6}},
		{[]uint64{35}, []uint64{64}, []uint64{1}}, {[]uint64{top}, []uint64{3}, []uint64{3}}, {ones(4), ones(6), ones(2)},
	} {
		got, e := split.Gcd(c.a, c.b)
		if e != nil || !slices.Equal(got, c.want) {
			t.Errorf("P3.2: Gcd(%v, %v): %v %v", c.a, c.b, got, e)
		}
	}
	for _, a := range numbers() {
		for _, b := range numbers() {
			checkGcd(t, a, b)
		}
	}
}

// Numbers that are made of others, so that more than 1 goes into both.
func TestGcdOfProducts(t *testing.T) {
	s := &source{state: 521288629}
	for i := range 300 {
		common := s.limbs(1 + i%4)
		a, e := nat.Mul(common, s.limbs(1+i%5))
		b, f := nat.Mul(common, s.limbs(1+i%3))
		up, g := nat.Shl(b, s.below(200))
		if e != nil || f != nil || g != nil {
			t.Fatal(e, f, g)
		}
		checkGcd(t, a, b)
		checkGcd(t, a, up)
		checkGcd(t, up, a)
	}
}

func TestGcdLimbs(t *testing.T) {
	s := &source{state: 88675123}
	for _, c := range []struct{ a, b []uint64 }{
		{ones(1024), ones(768)}, {ones(1024), ones(1024)}, {power(1023), ones(1024)}, {power(1023), append(make([]uint64, 1023), 12)}, {ones(1024), nil}, {[]uint64{0}, ones(1024)},
		{noughts(ones(1024), 7), noughts([]uint64{15}, 1030)}, {s.limbs(1024), s.limbs(1024)}, {s.limbs(1024), []uint64{1<<63 - 25}},
	} {
		checkGcd(t, c.a, c.b)
	}
	for _, c := range []struct{ a, b []uint64 }{
		{ones(1025), ones(1)}, {ones(1), ones(1025)}, {ones(1025), nil}, {nil, ones(1025)}, {[]uint64{0}, noughts(ones(1025), 1)}, {ones(1025), ones(1025)}, {power(1024), power(1024)},
	} {
		got, e := split.Gcd(c.a, c.b)
		if !errors.Is(e, api.Range) || len(got) != 0 {
			t.Errorf("P3.2: Gcd of %d and %d limbs: %v", len(c.a), len(c.b), e)
		}
	}
}

// ten: 10^n.
func ten(n int64) *big.Int { return new(big.Int).Exp(big.NewInt(10), big.NewInt(n), nil) }

// wholes: numbers below 0 and above, some of them next to powers of ten.
func wholes() []api.Int {
	mags := numbers()
	for _, n := range []int64{1, 2, 18, 19, 20, 37, 38, 39, 57, 76, 200, 1000} {
		for _, k := range []int64{-1, 0, 1, 7} {
			mags = append(mags, fromBig(new(big.Int).Add(ten(n), big.NewInt(k))))
		}
	}
	var list []api.Int
	for _, mag := range mags {
		list = append(list, api.Int{Mag: mag}, api.Int{Neg: true, Mag: mag})
	}
	return list
}

func TestText(t *testing.T) {
	for _, c := range []struct {
		a    api.Int
		want string
	}{
		{api.Int{}, "0"}, {api.Int{Neg: true}, "0"}, {api.Int{Neg: true, Mag: []uint64{0, 0}}, "0"}, {api.Int{Mag: []uint64{0}}, "0"}, {whole.Of(7), "7"}, {whole.Of(-7), "-7"},
		{whole.Of(10), "10"}, {whole.Of(math.MinInt64), "-9223372036854775808"}, {api.Int{Neg: true, Mag: []uint64{0, 1, 0}}, "-18446744073709551616"},
		{api.Int{Mag: []uint64{10000000000000000000}}, "10000000000000000000"}, {api.Int{Mag: []uint64{9999999999999999999}}, "9999999999999999999"},
	} {
		if got, e := split.Text(c.a); e != nil || got != c.want {
			t.Errorf("P3.3: Text(%v): %q %v", c.a, got, e)
		}
	}
	for _, a := range append(wholes(), api.Int{Neg: true, Mag: ones(1024)}, api.Int{Mag: power(1023)}, api.Int{Mag: noughts(ones(1024), 9)}) {
		if got, e := split.Text(a); e != nil || got != bigText(a) {
			t.Errorf("P3.3: Text(%v): %q %v", a, got, e)
		}
	}
	for _, mag := range [][]uint64{ones(1025), power(1024), noughts(ones(1025), 3), ones(4000)} {
		for _, neg := range []bool{false, true} {
			if got, e := split.Text(api.Int{Neg: neg, Mag: mag}); !errors.Is(e, api.Range) || got != "" {
				t.Errorf("P3.3: Text of %d limbs: %.20q %v", len(mag), got, e)
			}
		}
	}
}

// checkParse holds an answer against the library's.
func checkParse(t *testing.T, s string) {
	t.Helper()
	want, ok := new(big.Int).SetString(s, 10)
	got, e := split.Parse(s)
	if !ok || e != nil || got.Neg != (want.Sign() < 0) {
		t.Errorf("P3.3: Parse(%.30q): %v", s, e)
		return
	}
	check(t, "P3.3: Parse", got.Mag, want.Abs(want))
}

func TestParse(t *testing.T) {
	for _, s := range []string{
		"0", "1", "9", "-1", "-9", "10", "-10", "1234567890", "18446744073709551615", "18446744073709551616", "-18446744073709551616", "9999999999999999999", "10000000000000000000",
		"100000000000000000000000000000000000000", "-100000000000000000000000000000000000001", "12345678901234567890123456789012345678901234567890123456789",
	} {
		checkParse(t, s)
	}
	for n := 1; n < 120; n++ {
		for _, s := range []string{strings.Repeat("9", n), "1" + strings.Repeat("0", n-1), strings.Repeat("8070605040302010", 8)[:n]} {
			checkParse(t, s)
			checkParse(t, "-"+s)
		}
	}
}

func TestParseBytes(t *testing.T) {
	for _, s := range []string{
		strings.Repeat("9", 9998), strings.Repeat("9", 9999), "-" + strings.Repeat("9", 9998), "1" + strings.Repeat("0", 9998), strings.Repeat("1234567", 1428) + "123",
	} {
		checkParse(t, s)
	}
	for _, s := range []string{
		strings.Repeat("9", 10000), "-" + strings.Repeat("9", 9999), "1" + strings.Repeat("0", 9999), strings.Repeat("7", 1000000), strings.Repeat("0", 9999), strings.Repeat("9", 9998) + "a", strings.Repeat(" ", 10000),
	} {
		refuse(t, s)
	}
}

// refuse asks for BadLine, and for nothing beside it.
func refuse(t *testing.T, s string) {
	t.Helper()
	if got, e := split.Parse(s); !errors.Is(e, api.BadLine) || got.Neg || len(got.Mag) != 0 {
		t.Errorf("P3.3: Parse(%.30q): %v %v", s, got, e)
	}
}

func TestParseRefuses(t *testing.T) {
	for _, s := range []string{
		"", "-", "+", "-0", "00", "000", "-00", "01", "-01", "0000000000000000000000", "+0", "+1", "+18446744073709551616", "--1", "-+1", "+-1", "1-", "1-1", "1+", "-1-",
		" ", " 1", "1 ", "- 1", "-1 ", "1 2", "\t1", "1\n", "1\r\n", "\x00", "1\x00", "a", "A", "1a", "a1", "-a", "0a", "f", "0x1", "0b1", "0o7", "1_000", "1,000", "1.", "1.0", ".1", "1e3", "1/2",
		"/", ":", "1/", "1:", "-/", "-:", "12345678901234567890x", "x12345678901234567890", "1234567890123456789 1234567890123456789", "1234567890123456789-1234567890123456789", "1234567890123456789+234567890123456789",
		"\u0661", "\uff11", "1\u0662", "\u22121", "\xff", "1\xb2", "inf", "NaN", "-inf",
	} {
		refuse(t, s)
	}
	// Each sign there is, ahead of a digit, between two, and behind one.
	for sign := range 256 {
		c := string([]byte{byte(sign)})
		if c >= "0" && c <= "9" {
			continue
		}
		refuse(t, c)
		refuse(t, "1"+c)
		refuse(t, "1"+c+"1")
		if c != "-" {
			refuse(t, c+"1")
		}
	}
}

func TestWhatIsLeft(t *testing.T) {
	s := &source{state: 123456789}
	for i := range 400 {
		a, b := s.limbs(1+i%40), append(s.limbs(i%17), 1+s.word()>>s.below(64))
		q, r, e := split.Quo(a, b)
		product, f := nat.Mul(q, b)
		if e != nil || f != nil || nat.Cmp(r, b) >= 0 || !slices.Equal(nat.Add(product, r), nat.Plain(a)) {
			t.Errorf("P3.4: Quo(%v, %v): %v %v", a, b, q, r)
		}
	}
}

func TestThereAndBack(t *testing.T) {
	longest := new(big.Int).Sub(ten(9998), big.NewInt(1))
	for _, a := range append(wholes(), api.Int{Neg: true, Mag: fromBig(longest)}) {
		s, e := split.Text(a)
		back, f := split.Parse(s)
		want := whole.Plain(a)
		if e != nil || f != nil || back.Neg != want.Neg || !slices.Equal(back.Mag, want.Mag) {
			t.Errorf("P3.4: %v: %q, %v", a, s, back)
		}
	}
	for _, s := range []string{"0", "-5", "12345678901234567890123456789", "-" + strings.Repeat("1", 9998), strings.Repeat("3", 9999)} {
		a, e := split.Parse(s)
		back, f := split.Text(a)
		if e != nil || f != nil || back != s {
			t.Errorf("P3.4: %.30q: %.30q", s, back)
		}
	}
}

// answers: the numbers that all calls answer that are handed a and b.
func answers(a, b []uint64) [][]uint64 {
	q, r, _ := split.Quo(a, b)
	gcd, _ := split.Gcd(a, b)
	return [][]uint64{q, r, gcd}
}

// text: that of a number, which may be below 0.
func text(neg bool, mag []uint64) string {
	s, _ := split.Text(api.Int{Neg: neg, Mag: mag})
	return s
}

func TestHandedInStays(t *testing.T) {
	const spare = 12345
	withRoom := func(a []uint64) []uint64 { return append(slices.Clone(a), spare, spare, spare)[:len(a)] }
	stays := func(a, was []uint64) bool {
		full := append(slices.Clone(was), spare, spare, spare)
		return slices.Equal(a[:len(full)], full)
	}
	for _, number := range numbers() {
		for _, other := range numbers() {
			// Room behind both, which nobody may write into.
			a, b := withRoom(number), withRoom(other)
			told := answers(a, b)
			for i := range told {
				was := slices.Clone(told)
				for k := range was {
					was[k] = slices.Clone(was[k])
				}
				for k := range told[i] {
					told[i][k]++
				}
				_ = append(told[i], 1, 2, 3)
				for k := range told {
					if k != i && !slices.Equal(told[k], was[k]) {
						t.Errorf("rule 3: answers to %v and %v share memory", number, other)
					}
				}
			}
			text(true, a)
			if !stays(a, number) || !stays(b, other) {
				t.Errorf("rule 3: %v and %v became %v and %v", number, other, a, b)
			}
		}
	}
}

func TestSameAgain(t *testing.T) {
	for _, a := range numbers() {
		for _, b := range numbers() {
			if !slices.EqualFunc(answers(a, b), answers(noughts(a, 3), noughts(b, 1100)), slices.Equal) {
				t.Errorf("rule 4: %v and %v with noughts at the top", a, b)
			}
		}
		if text(true, a) != text(true, noughts(a, 1100)) {
			t.Errorf("rule 4: the text of %v with noughts at the top", a)
		}
	}
}
