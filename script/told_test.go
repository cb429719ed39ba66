package script_test

import (
	"errors"
	"fmt"
	"math"
	"math/rand/v2"
	"slices"
	"strings"
	"testing"

	"outrigger/api"
	"outrigger/desk"
	"outrigger/ratio"
	"outrigger/script"
)

const (
	greatest = math.MaxFloat64
	least    = math.SmallestNonzeroFloat64
	infinite = uint64(2047) << 52
	signBit  = uint64(1) << 63
)

// noughtBelow: 0 below 0.
var noughtBelow = math.Copysign(0, -1)

func at(x, y float64) api.Point {
	return api.Point{X: math.Float64bits(x), Y: math.Float64bits(y)}
}

// dice: the same numbers in each run.
func dice(seed uint64) *rand.Rand { return rand.New(rand.NewPCG(seed, 20)) }

// words: those of a point, as the lines have them.
func words(p api.Point) string { return fmt.Sprintf("%016x %016x", p.X, p.Y) }

// story: a script, line by line, what each of its lines should tell (nothing: the
// empty text), and the points that there are behind it.
type story struct {
	lines, told []string
	points      []api.Point
}

func (s *story) add(line, told string) {
	s.lines = append(s.lines, line)
	s.told = append(s.told, told)
}

func (s *story) point(list ...api.Point) {
	for _, p := range list {
		s.add("point "+words(p), "")
		s.points = append(s.points, p)
	}
}

func (s *story) clear() {
	s.add("clear", "")
	s.points = nil
}

// ask adds a line that asks: it tells the error, if there is one.
func (s *story) ask(line, told string, e error) {
	if e != nil {
		told = errorTold(e)
	}
	s.add(line, told)
}

// errorTold: by the chapter's words.
func errorTold(e error) string {
	place := ""
	var f *api.Fault
	if errors.As(e, &f) {
		place = fmt.Sprintf("%d: ", f.At)
	}
	for c := api.BadPoint; c <= api.Below; c++ {
		if errors.Is(e, c) {
			return fmt.Sprintf("%sE%d", place, int(c))
		}
	}
	return "no code"
}

func (s *story) hull(way int) {
	h, e := desk.Hull(s.points, way)
	told := "hull"
	for _, p := range h {
		told += fmt.Sprintf(" %016x,%016x", p.X, p.Y)
	}
	s.ask(fmt.Sprint("hull ", way), told, e)
}

func (s *story) contains(q api.Point) {
	where, e := desk.Contains(s.points, q)
	told := map[int]string{api.Outside: "outside", api.Boundary: "boundary", api.Inside: "inside"}[where]
	s.ask("contains "+words(q), told, e)
}

func (s *story) tangents(q api.Point) {
	left, right, e := desk.Tangents(s.points, q)
	s.ask("tangents "+words(q), fmt.Sprintf("tangents %d %d", left, right), e)
}

func (s *story) diameter() {
	far, i, j, e := desk.Diameter(s.points)
	text, _ := ratio.Text(far)
	s.ask("diameter", fmt.Sprintf("diameter %s %d %d", text, i, j), e)
}

func (s *story) width() {
	width, e := desk.Width(s.points)
	text, _ := ratio.Text(width)
	s.ask("width", "width "+text, e)
}

// askAll asks all that there is to ask, of that point.
func (s *story) askAll(q api.Point) {
	for way := range 10 {
		s.hull(way)
	}
	s.contains(q)
	s.tangents(q)
	s.diameter()
	s.width()
}

// toldOf: what the first n lines should tell.
func (s *story) toldOf(n int) (told string) {
	for _, line := range s.told[:n] {
		if line != "" {
			told += line + "\n"
		}
	}
	return told
}

// textOf: the first n lines, a line feed behind the last one, too.
func (s *story) textOf(n int) (text string) {
	for _, line := range s.lines[:n] {
		text += line + "\n"
	}
	return text
}

// wantTold holds what a script tells against what is wanted; of long texts the
// first line that isn't so is told.
func wantTold(t *testing.T, promise, text, want string) {
	t.Helper()
	got, e := script.Run(text)
	if e == nil && got == want {
		return
	}
	gotLines, wantLines := strings.Split(got, "\n"), strings.Split(want, "\n")
	for i := range min(len(gotLines), len(wantLines)) {
		if gotLines[i] != wantLines[i] {
			t.Errorf("%s: %.300q, %d bytes: %v, told line %d is %.300q, not %.300q", promise, text, len(text), e, i+1, gotLines[i], wantLines[i])
			return
		}
	}
	t.Errorf("%s: %.300q, %d bytes: %v, %d lines told, not %d", promise, text, len(text), e, len(gotLines), len(wantLines))
}

// check holds what the script tells against the story, with a line feed behind
// the last line and without.
func (s *story) check(t *testing.T) {
	t.Helper()
	text, told := s.textOf(len(s.lines)), s.toldOf(len(s.lines))
	wantTold(t, "P20.1", text, told)
	wantTold(t, "P20.1", strings.TrimSuffix(text, "\n"), told)
}

// All kinds of lines, and what they tell, written out sign by sign.
func TestWrittenOut(t *testing.T) {
	t.Parallel()
	const (
		nought = "0000000000000000"
		below  = "8000000000000000"
		one    = "3ff0000000000000"
		two    = "4000000000000000"
		three  = "4008000000000000"
		four   = "4010000000000000"
		half   = "3fe0000000000000"
		beyond = "7ff0000000000000"
	)
	for _, c := range []struct{ text, want string }{
		{"", ""},
		// No points.
		{"clear\nclear", ""}, {"hull 0", "hull\n"}, {"hull 1\nhull 2\nhull 3\n", "hull\nhull\nhull\n"}, {"hull 4\nhull 5\nhull 6\nhull 7\nhull 8\nhull 9", "E5\nE5\nE5\nE5\nE5\nE5\n"}, {"contains " + one + " " + two, "outside\n"}, {"tangents " + one + " " + two, "E2\n"}, {"diameter", "E2\n"}, {"width", "E2\n"},
		{"contains " + one + " " + beyond, "0: E1\n"}, {"tangents " + beyond + " " + one, "0: E1\n"},
		// One point: that is told as its Norm.
		{"point " + one + " " + two + "\n", ""}, {"point " + one + " " + two + "\nhull 0\nhull 1\nhull 2\nhull 3\nhull 4", strings.Repeat("hull "+one+","+two+"\n", 4) + "E5\n"}, {"point " + below + " " + below + "\nhull 3", "hull " + nought + "," + nought + "\n"},
		{"point " + one + " " + two + "\ncontains " + one + " " + two + "\ncontains " + two + " " + one + "\ntangents " + one + " " + two + "\ntangents " + two + " " + one + "\ndiameter\nwidth", "boundary\noutside\nE3\ntangents 0 0\ndiameter 0 0 0\nwidth 0\n"},
		// Points that are alike, and 0 below 0.
		{"point " + nought + " " + one + "\npoint " + below + " " + one + "\npoint " + nought + " " + one + "\nhull 0\nhull 1\nhull 2\nhull 3\nwidth", strings.Repeat("hull "+nought+","+one+"\n", 4) + "width 0\n"},
		{"point " + nought + " " + below + "\npoint " + two + " " + nought + "\ncontains " + one + " " + below + "\ndiameter", "boundary\ndiameter 4 0 1\n"},
		// Two points, and three, one behind the other.
		{"hull 2\npoint " + half + " " + nought + "\nhull 2\npoint " + nought + " " + nought + "\nhull 2\ndiameter\nwidth\npoint " + nought + " " + one + "\nhull 2\ndiameter\nwidth", "hull\nhull " + half + "," + nought + "\nhull " + nought + "," + nought + " " + half + "," + nought + "\ndiameter 1/4 0 1\nwidth 0\nhull " + nought + "," + nought + " " + half + "," + nought + " " + nought + "," + one + "\ndiameter 5/4 1 2\nwidth 1/5\n"},
		// The points are cleared, and there are others.
		{"point " + one + " " + one + "\nclear\nhull 0\nwidth\npoint " + two + " " + three + "\nhull 0\nclear\nclear\nhull 0\npoint " + one + " " + four + "\nclear\npoint " + four + " " + one + "\nhull 0", "hull\nE2\nhull " + two + "," + three + "\nhull\nhull " + four + "," + one + "\n"},
		// Points that aren't good.
		{"point " + beyond + " " + one + "\nhull 0\nhull 3\nhull 4\ncontains " + one + " " + one + "\ntangents " + one + " " + one + "\ndiameter\nwidth\nclear\nwidth", "0: E1\n0: E1\nE5\n0: E1\n0: E1\n0: E1\n0: E1\nE2\n"},
		{"point " + one + " " + one + "\npoint " + one + " 7ff8000000000001\npoint ffffffffffffffff " + one + "\nhull 1\ncontains " + beyond + " " + one + "\nwidth", "1: E1\n1: E1\n1: E1\n"},
		{"point " + one + " " + one + "\npoint " + one + " " + one + "\ncontains " + one + " " + beyond + "\ntangents fff0000000000000 " + one + "\nhull 0", "2: E1\n2: E1\nhull " + one + "," + one + "\n"},
		// The greatest and the least of all.
		{"point 7fefffffffffffff ffefffffffffffff\npoint ffefffffffffffff 7fefffffffffffff\nhull 1\ncontains 0000000000000001 8000000000000001\ncontains 0000000000000001 0000000000000001\ntangents 0000000000000001 0000000000000001\ntangents 8000000000000001 8000000000000001", "hull ffefffffffffffff,7fefffffffffffff 7fefffffffffffff,ffefffffffffffff\nboundary\noutside\ntangents 1 0\ntangents 0 1\n"},
	} {
		wantTold(t, "P20.1", c.text, c.want)
		wantTold(t, "P20.1", strings.TrimSuffix(c.text, "\n"), c.want)
	}
}

// someBits: those of edges, all signs, few signs that aren't 0, or any.
func someBits(by *rand.Rand) uint64 {
	few := []uint64{0, signBit, 1, signBit | 1, 0x0123456789abcdef, 0xfedcba9876543210, infinite - 1, signBit | (infinite - 1), infinite, signBit | infinite, math.MaxUint64, 0x7ff8000000000000, 1 << 52, 1<<52 - 1}
	switch by.IntN(4) {
	case 0:
		return by.Uint64()
	case 1:
		return by.Uint64() >> by.IntN(64)
	case 2:
		return 15 << (4 * by.IntN(16))
	}
	return few[by.IntN(len(few))]
}

// somePoint: of a grid, with both noughts; of a row of lines; between the least
// and the greatest; rarely any bits.
func somePoint(kind int, by *rand.Rand) api.Point {
	whole := func(n int) float64 {
		if x := float64(by.IntN(2*n+1) - n); x != 0 || by.IntN(2) == 0 {
			return x
		}
		return noughtBelow
	}
	switch kind % 4 {
	case 0:
		return at(whole(2), whole(2))
	case 1:
		x := whole(9)
		return at(x, x/2+whole(1))
	case 2:
		return at(math.Ldexp(whole(9), by.IntN(2030)-1074), math.Ldexp(whole(9), by.IntN(2030)-1074))
	}
	if by.IntN(8) > 0 {
		return at(by.NormFloat64(), by.NormFloat64())
	}
	return api.Point{X: someBits(by), Y: someBits(by)}
}

// tale: a script of n lines by chance, with as many points as that makes, or but
// few.
func tale(n, kind int, by *rand.Rand) (s story) {
	few := by.IntN(3) == 0
	for len(s.lines) < n {
		q := somePoint(kind, by)
		if len(s.points) > 0 && by.IntN(5) == 0 {
			q = s.points[by.IntN(len(s.points))]
		}
		switch k := by.IntN(16); {
		case k < 6:
			s.point(q)
		case k < 7 && (few || by.IntN(9) == 0):
			s.clear()
		case k < 9:
			s.hull(by.IntN(4 + by.IntN(7)))
		case k < 11:
			s.contains(q)
		case k < 13:
			s.tangents(q)
		case k < 14:
			s.diameter()
		default:
			s.width()
		}
	}
	return s
}

// tales: scripts of no lines to some hundreds.
func tales(by *rand.Rand) (list []story) {
	for n := range 400 {
		list = append(list, tale(n%60, n, by))
	}
	for n := range 12 {
		list = append(list, tale(100+25*n, n, by))
	}
	return list
}

// Lines of all seven kinds, in any order, line by line.
func TestByChance(t *testing.T) {
	t.Parallel()
	by := dice(1)
	told := map[string]int{}
	for _, s := range tales(by) {
		s.check(t)
		for _, line := range s.told {
			first, _, _ := strings.Cut(line, " ")
			told[strings.TrimLeft(first, "0123456789")+map[bool]string{true: " over"}[strings.Contains(line, "/")]]++
			if strings.HasSuffix(line, "E1") {
				told["E1"]++
			}
		}
	}
	for _, kind := range []string{"", "hull", "inside", "boundary", "outside", "tangents", "diameter", "diameter over", "width", "width over", "E1", "E2", "E3", "E5"} {
		if told[kind] < 50 {
			t.Errorf("%q was told but %d times: %v", kind, told[kind], told)
		}
	}
}

// All that may be asked, of no points and one more each, good or not: what is
// wrong is told in its place.
func TestAskedOfAll(t *testing.T) {
	t.Parallel()
	for _, bad := range []api.Point{{X: infinite}, {Y: infinite}, {X: signBit | infinite, Y: 5}, {X: 5, Y: infinite | 1}, {X: math.MaxUint64, Y: math.MaxUint64}} {
		for _, l := range [][]api.Point{
			{at(0, 0), at(2, 0), at(2, 2), at(0, 2), at(1, 1)},
			{at(noughtBelow, 0), at(0, noughtBelow), at(0, 0), at(3, 1), at(1, 3)},
			{at(-greatest, -greatest), at(greatest, greatest), at(least, 0), at(0, least)},
		} {
			for place := range len(l) + 1 {
				var s story
				for i, p := range append(slices.Insert(slices.Clone(l), place, bad), bad) {
					s.askAll(at(1, 1))
					s.askAll(at(7, 1))
					s.askAll(bad)
					if i == place {
						s.clear()
						s.askAll(bad)
						s.point(l[:place]...)
					}
					s.point(p)
				}
				s.askAll(at(1, 1))
				s.check(t)
			}
		}
	}
}

// Each beginning of a script tells the beginning of what all of it tells, however
// it may go on.
func TestBeginnings(t *testing.T) {
	t.Parallel()
	by := dice(2)
	for _, s := range append(tales(by)[:30], tale(90, 0, by), tale(90, 3, by)) {
		all, e := script.Run(s.textOf(len(s.lines)))
		for n := range s.lines {
			told, e2 := script.Run(s.textOf(n))
			if e != nil || e2 != nil || !strings.HasPrefix(all, told) || strings.Count(told, "\n") != strings.Count(s.toldOf(n), "\n") {
				t.Errorf("P20.3: %.300q: of the first %d lines %v %.300q, of all %v %.300q", s.textOf(n), n, e2, told, e, all)
			}
			for _, on := range []string{"clear\nhull 0", "point " + words(api.Point{X: someBits(by), Y: someBits(by)})} {
				if other, e := script.Run(s.textOf(n) + on); e != nil || !strings.HasPrefix(other, told) || strings.Count(other, "\n") > strings.Count(told, "\n")+1 {
					t.Errorf("P20.3: %.300q: of the first %d lines %.300q, and of %q %v %.300q", s.textOf(n), n, told, on, e, other)
				}
			}
		}
	}
}

// A script is told anew each time: nothing stays of another one.
func TestToldAnew(t *testing.T) {
	t.Parallel()
	by := dice(3)
	for n := range 20 {
		one, other := tale(40, n, by), tale(30, n+1, by)
		for range 2 {
			one.check(t)
			other.check(t)
			wantTold(t, "P20.1", "", "")
			wantTold(t, "P20.1", "hull 0", "hull\n")
			wantTold(t, "P20.1", "width", "E2\n")
		}
	}
}

// Of any bits: the line, and what Run reads it as.
func TestLine(t *testing.T) {
	t.Parallel()
	by := dice(4)
	for _, c := range []struct {
		p    api.Point
		want string
	}{
		{at(1, -2), "point 3ff0000000000000 c000000000000000"}, {at(0, noughtBelow), "point 0000000000000000 8000000000000000"}, {at(noughtBelow, 0), "point 8000000000000000 0000000000000000"}, {at(least, -least), "point 0000000000000001 8000000000000001"}, {at(greatest, -greatest), "point 7fefffffffffffff ffefffffffffffff"},
		{api.Point{X: infinite, Y: infinite | signBit}, "point 7ff0000000000000 fff0000000000000"}, {api.Point{X: math.MaxUint64, Y: infinite | 0xabc}, "point ffffffffffffffff 7ff0000000000abc"}, {api.Point{X: 0x0123456789abcdef, Y: 0xfedcba9876543210}, "point 0123456789abcdef fedcba9876543210"}, {api.Point{X: 0x10, Y: 0x0fedcba987654321}, "point 0000000000000010 0fedcba987654321"},
	} {
		if line := script.Line(c.p); line != c.want {
			t.Errorf("P20.2: %x: %q, not %q", c.p, line, c.want)
		}
	}
	for n := range 4000 {
		p := api.Point{X: someBits(by), Y: someBits(by)}
		line := script.Line(p)
		if line != "point "+words(p) {
			t.Errorf("P20.2: %x: %q", p, line)
		}
		if n%10 > 0 {
			continue
		}
		var s story
		s.point(p)
		s.askAll(p)
		s.clear()
		s.point(at(1, 1), p, at(least, -5), p)
		s.askAll(at(0, 1))
		wantTold(t, "P20.2", strings.ReplaceAll(s.textOf(len(s.lines)), "point "+words(p), line), s.toldOf(len(s.lines)))
	}
}
