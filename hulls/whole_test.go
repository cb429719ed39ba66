package hulls_test

import (
	"fmt"
	"math"
	"math/rand/v2"
	"slices"
	"strings"
	"testing"

	"outrigger/api"
	"outrigger/desk"
	"outrigger/ratio"
	"outrigger/script"
)

// bitsTold: those of a point, as a script has them, with what is to stand between.
func bitsTold(p api.Point, between string) string {
	return fmt.Sprintf("%016x%s%016x", p.X, between, p.Y)
}

// hullTold: as a script tells it.
func hullTold(h []api.Point) string {
	told := "hull"
	for _, p := range h {
		told += " " + bitsTold(p, ",")
	}
	return told
}

// wantScript holds what a script of points, and of lines that ask of them, tells
// against what is wanted, a line for each that asks.
func wantScript(t *testing.T, l []api.Point, lines, want []string) {
	t.Helper()
	var all []string
	for _, p := range l {
		all = append(all, script.Line(p))
	}
	told, e := script.Run(strings.Join(append(all, lines...), "\n"))
	if e != nil || told != strings.Join(want, "\n")+"\n" {
		t.Errorf("P6: of %s, %.300q tells %.300q %v, not %.300q", seen(l...), lines, told, e, want)
	}
}

// The ten examples of the whole, through scripts.
func TestWholeExamples(t *testing.T) {
	t.Parallel()
	three := points(0, 0, 1, 1, 0.5, 0.5+0x1p-53)
	bad := append(points(0, 0, 1, 1), api.Point{X: infinite | 1})
	square := points(0, 0, 2, 0, 2, 2, 0, 2)
	of := func(word string, x, y float64) string { return word + " " + bitsTold(at(x, y), " ") }
	hulls := []string{"hull 0", "hull 1", "hull 2", "hull 3"}
	for _, c := range []struct {
		l           []api.Point
		lines, want []string
	}{
		{three, hulls, slices.Repeat([]string{hullTold(three)}, 4)},
		{points(0, 0, 2, 2, 1, 1), hulls, slices.Repeat([]string{"hull 0000000000000000,0000000000000000 4000000000000000,4000000000000000"}, 4)},
		{points(0, 0, noughtBelow, noughtBelow), hulls, slices.Repeat([]string{"hull 0000000000000000,0000000000000000"}, 4)},
		{bad, append(hulls, of("contains", 1, 1), of("tangents", 5, 1), "diameter", "width"), slices.Repeat([]string{"2: E1"}, 8)},
		{square, []string{"diameter", "width"}, []string{"diameter 8 0 2", "width 4"}},
		{square, []string{of("contains", 2, 1)}, []string{"boundary"}},
		{square, []string{of("tangents", 4, 1)}, []string{"tangents 1 2"}},
		{points(0, 0, 3, 1, 1, 3), []string{"width"}, []string{"width 32/5"}},
		{nil, []string{of("contains", 0, 0), "diameter"}, []string{"outside", "E2"}},
		{square, []string{"hull 4"}, []string{"E5"}},
	} {
		wantScript(t, c.l, c.lines, c.want)
	}
}

// wholeLists: a third of the lists of all kinds, as they come.
func wholeLists(by *rand.Rand) (lists [][]api.Point) {
	for k, l := range deskLists(by) {
		if k < 30 || k%3 == 0 {
			lists = append(lists, l)
		}
	}
	return lists
}

// anyBits: of all 64 bits whatever they are; of a few floats, and their next ones;
// rarely of what is none.
func anyBits(by *rand.Rand) uint64 {
	switch few := []float64{0, noughtBelow, 1, -1, least, -least, greatest, -greatest, leastHigh, 0.1}; by.IntN(9) {
	case 0, 1, 2:
		return by.Uint64()
	case 3:
		return by.Uint64()&(signBit|(1<<52-1)) | 1023<<52
	case 4:
		return math.Float64bits(few[by.IntN(len(few))]) + uint64(by.IntN(3)-1)
	default:
		return math.Float64bits(few[by.IntN(len(few))])
	}
}

// Whatever bits: of each way the first point that isn't good, or just the points
// that are no part of what the others hold, each once.
func TestWholeBits(t *testing.T) {
	t.Parallel()
	by := dice(80)
	faults, corners, others := 0, 0, 0
	for n := range 3000 {
		var l []api.Point
		for range n % 16 {
			l = append(l, api.Point{X: anyBits(by), Y: anyBits(by)})
		}
		if n%3 == 0 {
			l = slices.DeleteFunc(l, isBad)
			l = append(l, l[:len(l)/2]...)
		}
		if place := slices.IndexFunc(l, isBad); place >= 0 {
			wantBadPoint(t, l, place)
			faults++
			continue
		}
		want := hullOf(l)
		corners, others = corners+len(want), others+len(onceOf(l))-len(want)
		wantHulls(t, "P1", l, want)
	}
	for _, l := range wholeLists(by) {
		wantHulls(t, "P1", signed(shuffled(l, by), by), hullBySides(l))
	}
	if faults < 300 || corners < 4000 || others < 1000 {
		t.Errorf("%d faults, %d corners, %d others", faults, corners, others)
	}
}

// wantHulls holds the hull that each way tells against what is wanted.
func wantHulls(t *testing.T, promise string, l, want []api.Point) {
	t.Helper()
	for way := range 4 {
		if h, e := desk.Hull(l, way); e != nil || !slices.Equal(h, want) {
			t.Errorf("%s: Hull of %s by way %d: %s %v, not %s", promise, seen(l...), way, seen(h...), e, seen(want...))
		}
	}
}

// wantBadPoint: does each way tell that place, and no hull?
func wantBadPoint(t *testing.T, l []api.Point, place int) {
	t.Helper()
	for way := range 4 {
		if h, e := desk.Hull(l, way); len(h) != 0 || !isAt(e, place) {
			t.Errorf("P1: Hull of %s by way %d: %s %v, not at %d", seen(l...), way, seen(h...), e, place)
		}
	}
}

// One form: each way's hull begins with the least of all points, and has all of
// its points to the left of each of its lines, so it turns to the left alone and
// goes round once; all are the same, bit by bit.
func TestWholeOneForm(t *testing.T) {
	t.Parallel()
	by := dice(81)
	lists := append(wholeLists(by), slices.Repeat(wheel(200), 9), append(bowl(250), back(bowl(90))...))
	for kind := range 5 {
		lists = append(lists, chance(2000, kind, by))
	}
	for _, l := range lists {
		for _, l := range [][]api.Point{l, back(l), shuffled(allBelow(l), by)} {
			first, e := desk.Hull(l, 0)
			if e != nil || !rightOf(first) || len(l) > 0 && first[0] != onceOf(l)[0] {
				t.Errorf("P2: Hull of %s: %s %v", seen(l...), seen(first...), e)
			}
			wantHulls(t, "P2", l, first)
		}
	}
}

// Where a point lies, by the segments and triangles of the points that hold it;
// inside of a point or a segment nothing lies.
func TestWholeInside(t *testing.T) {
	t.Parallel()
	by := dice(82)
	told := [3]int{}
	lists := [][]api.Point{nil, points(3, 4), points(noughtBelow, 0, 0, 0), points(0, 0, 2, 0), row(1, 1, 0.25, 0.125, 9), row(-3, 5, 0x1p-50, 0x1p-49, 7), points(greatest, greatest, -greatest, -greatest, 0, 0), points(2, 2, 0, 0, 2, 0, 0, 2, 1, 1), bowl(8), wheel(9)}
	for n := range 150 {
		lists = append(lists, chance(1+n%11, n, by))
	}
	for k, l := range lists {
		flat := len(hullOf(l)) < 3
		for _, q := range append(besides(l, by), points(0, 0, noughtBelow, 1, greatest, -greatest, least, least)...) {
			want := whereOf(l, q)
			where, e := desk.Contains(l, q)
			if e != nil || where != want || flat && where == api.Inside {
				t.Errorf("P3: Contains of %s, %s: %d %v, not %d", seen(l...), seen(q), where, e, want)
			}
			told[where]++
			if k%5 == 0 {
				wantScript(t, l, []string{"contains " + bitsTold(q, " ")}, []string{[]string{"outside", "boundary", "inside"}[want]})
			}
		}
	}
	if slices.Min(told[:]) < 1000 {
		t.Errorf("told: %v", told)
	}
}

// From without all points lie between the lines to both corners, and none lies
// farther in them.
func TestWholeSeen(t *testing.T) {
	t.Parallel()
	by := dice(83)
	outside, inLine := 0, 0
	for _, l := range wholeLists(by) {
		if len(l) == 0 {
			continue
		}
		h := hullBySides(l)
		l = shuffled(l, by)
		for _, q := range shuffled(append(besides(l, by), besides(h, by)...), by)[:min(60, 8*len(l))] {
			if whereBySides(h, q) != api.Outside {
				wantHeld(t, l, q)
				continue
			}
			left, right, e := desk.Tangents(l, q)
			if e != nil || left < 0 || left >= len(h) || right < 0 || right >= len(h) {
				t.Errorf("P4: Tangents of %s, %s: %d %d %v", seen(l...), seen(q), left, right, e)
				continue
			}
			for _, p := range l {
				if isBeyond(q, h[left], p, 1) || isBeyond(q, h[right], p, -1) {
					t.Errorf("P4: Tangents of %s, %s: %d %d; %s lies beyond", seen(l...), seen(q), left, right, seen(p))
				}
			}
			outside++
			if _, other := cornerSeen(h, q, 1); other && len(h) > 2 {
				inLine++
			}
		}
	}
	if outside < 2000 || inLine < 150 {
		t.Errorf("%d points outside, %d in line with two corners", outside, inLine)
	}
}

// isBeyond: does p lie to that side of the line from q to a corner, or in it, but
// not between both?
func isBeyond(q, corner, p api.Point, side int) bool {
	turn, way := turnOf(q, corner, p), lexOf(q, corner)
	between := lexOf(q, p) == way && lexOf(p, corner) != -way
	return turn == side || turn == 0 && !between
}

// wantHeld: is what a point sees refused, since it isn't outside?
func wantHeld(t *testing.T, l []api.Point, q api.Point) {
	t.Helper()
	if left, right, e := desk.Tangents(l, q); left != 0 || right != 0 || !isCode(e, api.NoTangent) {
		t.Errorf("P4: Tangents of %s, %s: %d %d %v", seen(l...), seen(q), left, right, e)
	}
}

// The farthest two of all points, and the narrowest strip that all of them fit
// into over all directions, in least terms.
func TestWholeSizes(t *testing.T) {
	t.Parallel()
	by := dice(84)
	fractions := 0
	for k, l := range wholeLists(by) {
		if len(l) == 0 {
			continue
		}
		l = shuffled(l, by)
		want, farthest := farthestOf(l)
		h, _ := desk.Hull(l, 0)
		far, i, j, e := desk.Diameter(l)
		two := len(h) > 1 && i >= 0 && i < j && j < len(h) && (slices.Contains(farthest, [2]api.Point{h[i], h[j]}) || slices.Contains(farthest, [2]api.Point{h[j], h[i]}))
		if e != nil || !isRightRatio(far, want) || !two && (len(h) != 1 || i != 0 || j != 0) {
			t.Errorf("P5: Diameter of %s: %v %d %d %v, not %v", seen(l...), far, i, j, e, want)
		}
		strip := widthOf(l)
		if width, e := desk.Width(l); e != nil || !isRightRatio(width, strip) {
			t.Errorf("P5: Width of %s: %v %v, not %v", seen(l...), width, e, strip)
		}
		if !strip.IsInt() {
			fractions++
		}
		if k%7 == 0 {
			wantScript(t, l, []string{"diameter", "width"}, []string{fmt.Sprintf("diameter %s %d %d", want.RatString(), i, j), "width " + strip.RatString()})
		}
	}
	if fractions < 50 {
		t.Errorf("no whole number %d times", fractions)
	}
}

// answers: all that is told of points and one that is asked about: corners as
// points, which go along, and ratios as text.
type answers struct {
	where       int
	left, right api.Point
	far, width  string
}

// answersOf: those of at least one point.
func answersOf(l []api.Point, q api.Point) (a answers) {
	h, _ := desk.Hull(l, 0)
	a.where, _ = desk.Contains(l, q)
	if left, right, e := desk.Tangents(l, q); e == nil {
		a.left, a.right = h[left], h[right]
	}
	far, _, _, _ := desk.Diameter(l)
	a.far, _ = ratio.Text(far)
	width, _ := desk.Width(l)
	a.width, _ = ratio.Text(width)
	return a
}

// seenFrom: the same answers in a view. In a mirror left is right.
func (a answers) seenFrom(view func(p api.Point) api.Point) answers {
	a.left, a.right = view(a.left), view(a.right)
	if isMirror(view) {
		a.left, a.right = a.right, a.left
	}
	return a
}

// isMirror: does what turns to the left turn to the right in that view?
func isMirror(view func(p api.Point) api.Point) bool {
	return turnOf(view(at(0, 0)), view(at(1, 0)), view(at(0, 1))) < 0
}

// hullSeenFrom: a hull in a view, to the left around from its least corner on.
func hullSeenFrom(h []api.Point, view func(p api.Point) api.Point) []api.Point {
	h = seenFrom(h, view)
	if isMirror(view) {
		slices.Reverse(h)
	}
	if len(h) == 0 {
		return h
	}
	return turned(h, slices.Index(h, slices.MinFunc(h, lexOf)))
}

// Turned, hulls go along, and what is told of them: the plane by quarters and in
// a mirror, and the list.
func TestWholeTurned(t *testing.T) {
	t.Parallel()
	by := dice(85)
	for _, l := range wholeLists(by) {
		if len(l) == 0 {
			continue
		}
		h := hullBySides(l)
		wantHulls(t, "P6", turned(l, by.IntN(len(l))), h)
		for n, view := range append(views()[1:], mirrored) {
			other := seenFrom(l, view)
			wantHulls(t, "P6", other, hullSeenFrom(h, view))
			near := besides(h, by)
			q := near[by.IntN(len(near))]
			if want, got := answersOf(l, q).seenFrom(view), answersOf(other, view(q)); got != want {
				t.Errorf("P6: of %s, %s in view %d: %v, not %v", seen(l...), seen(q), n+1, got, want)
			}
		}
	}
}

// With points more, hulls go along: the hull of all is that of hulls, what a hull
// holds changes nothing, and what it doesn't hold becomes a corner.
func TestWholeMore(t *testing.T) {
	t.Parallel()
	by := dice(86)
	lists := wholeLists(by)
	more, same := 0, 0
	for _, l := range lists {
		other := lists[by.IntN(len(lists))]
		h, all := hullBySides(l), append(slices.Clone(l), other...)
		want := hullBySides(all)
		wantHulls(t, "P6", all, want)
		wantHulls(t, "P6", append(slices.Clone(h), other...), want)
		wantHulls(t, "P6", append(hullBySides(other), h...), want)
		if len(l) == 0 {
			continue
		}
		near := besides(h, by)
		for range 6 {
			q, asked := near[by.IntN(len(near))], near[by.IntN(len(near))]
			with := append(slices.Clone(l), q)
			if where, _ := desk.Contains(l, q); where == api.Outside {
				h, e := desk.Hull(with, by.IntN(4))
				if where, e2 := desk.Contains(with, q); e != nil || e2 != nil || where != api.Boundary || !slices.Contains(h, normOf(q)) {
					t.Errorf("P6: of %s, with %s: %s %d %v %v", seen(l...), seen(q), seen(h...), where, e, e2)
				}
				more++
				continue
			}
			wantHulls(t, "P6", with, h)
			if want, got := answersOf(l, asked), answersOf(with, asked); got != want {
				t.Errorf("P6: of %s, with %s, %s: %v, not %v", seen(l...), seen(q), seen(asked), got, want)
			}
			same++
		}
	}
	if more < 300 || same < 300 {
		t.Errorf("a corner more %d times, the same %d times", more, same)
	}
}

// askedOf: lines that ask all of good points, h being their hull, and what they
// tell: by the words, reckoned exactly.
func askedOf(l, h, asked []api.Point) (lines, want []string) {
	add := func(line, told string) { lines, want = append(lines, line), append(want, told) }
	for way := range 10 {
		add(fmt.Sprint("hull ", way), map[bool]string{true: hullTold(h), false: "E5"}[way < 4])
	}
	for _, q := range asked {
		where := whereBySides(h, q)
		add("contains "+bitsTold(q, " "), []string{"outside", "boundary", "inside"}[where])
		told := "E3"
		if len(h) == 0 {
			told = "E2"
		} else if where == api.Outside {
			left, _ := cornerSeen(h, q, 1)
			right, _ := cornerSeen(h, q, -1)
			told = fmt.Sprintf("tangents %d %d", left, right)
		}
		add("tangents "+bitsTold(q, " "), told)
	}
	if len(h) == 0 {
		add("diameter", "E2")
		add("width", "E2")
		return lines, want
	}
	far, i, j := farBySides(l, h)
	add("diameter", fmt.Sprintf("diameter %s %d %d", far.RatString(), i, j))
	add("width", "width "+widthByLines(h).RatString())
	return lines, want
}

// Scripts tell what the calls tell, of lists of all kinds.
func TestWholeScripts(t *testing.T) {
	t.Parallel()
	by := dice(87)
	for k, l := range append(wholeLists(by), chance(600, 2, by), bowl(300)) {
		l = signed(shuffled(l, by), by)
		h := hullBySides(l)
		asked := points(0, noughtBelow, greatest, -least)
		if len(l) > 0 {
			asked = append(asked, shuffled(append(besides(h[:min(3, len(h))], by), l[0]), by)[:5]...)
		}
		lines, want := askedOf(l, h, asked)
		wantScript(t, l, lines, want)
		// One that isn't good is told by its place, ahead of what is asked about.
		bad := bads()[k%len(bads())]
		lines = []string{"contains " + bitsTold(bad, " "), "tangents " + bitsTold(bad, " ")}
		wantScript(t, l, lines, slices.Repeat([]string{fmt.Sprintf("%d: E1", len(l))}, 2))
		place := by.IntN(len(l) + 1)
		lines = append(lines, "hull 0", "hull 1", "hull 2", "hull 3", "contains "+bitsTold(asked[0], " "), "tangents "+bitsTold(asked[0], " "), "diameter", "width", "hull 4")
		wantScript(t, append(slices.Insert(slices.Clone(l), place, bad), bad), lines, append(slices.Repeat([]string{fmt.Sprintf("%d: E1", place)}, 10), "E5"))
	}
}
