package rounds_test

import (
	"errors"
	"fmt"
	"math"
	"slices"
	"testing"

	"outrigger/api"
	"outrigger/narrow"
	"outrigger/wide"
)

// size: a call that is asked of a round alone, and the promise that it keeps.
// What it answers is told as a text, and spoilt, if one wants that.
type size struct {
	name, promise string
	ask           func(h []api.Point, spoilt bool) (string, error)
	// none: what there is of a round without points, and beside an error;
	// empty: the error of a round without points.
	none  string
	empty error
}

// sizes: all of them.
func sizes() []size {
	list := []size{
		{"wide.Pairs", "P17.1", askPairs, fmt.Sprint([][2]int{}), nil},
		{"wide.Diameter", "P17.2", askDiameter, fmt.Sprint(api.Ratio{}, 0, 0), api.EmptyHull},
		{"narrow.Width", "P18.2", askRatio(narrow.Width), fmt.Sprint(api.Ratio{}), api.EmptyHull},
	}
	for _, k := range []int{0, 2, -1, 3, math.MinInt, math.MaxInt} {
		strip := func(h []api.Point) (api.Ratio, error) { return narrow.Strip(h, k) }
		list = append(list, size{fmt.Sprintf("narrow.Strip %d", k), "P18.1", askRatio(strip), fmt.Sprint(api.Ratio{}), api.Below})
	}
	return list
}

// askRatio: of a call that answers but a ratio.
func askRatio(call func(h []api.Point) (api.Ratio, error)) func(h []api.Point, spoilt bool) (string, error) {
	return func(h []api.Point, spoilt bool) (string, error) {
		r, e := call(h)
		told := fmt.Sprint(r)
		if spoilt {
			spoil(r)
		}
		return told, e
	}
}

func askPairs(h []api.Point, spoilt bool) (string, error) {
	pairs, e := wide.Pairs(h)
	told := fmt.Sprint(pairs)
	if spoilt {
		for i := range pairs {
			pairs[i] = [2]int{77, -5}
		}
	}
	return told, e
}

func askDiameter(h []api.Point, spoilt bool) (string, error) {
	far, i, j, e := wide.Diameter(h)
	told := fmt.Sprint(far, i, j)
	if spoilt {
		spoil(far)
	}
	return told, e
}

// spoil fills a ratio's limbs, and their spare room.
func spoil(r api.Ratio) {
	for _, mag := range [][]uint64{r.Num.Mag, r.Den.Mag} {
		mag = mag[:cap(mag)]
		for i := range mag {
			mag[i] = 77
		}
	}
}

// wantRefused: does it tell that, and nothing beside it?
func (a size) wantRefused(t *testing.T, h []api.Point, want error) {
	t.Helper()
	var f *api.Fault
	if told, e := a.ask(h, false); told != a.none || e == nil || !errors.Is(e, want) || errors.As(e, &f) {
		t.Errorf("%s: %s of %s: %s %v, not %v", a.promise, a.name, seen(h...), told, e, want)
	}
}

// wantSizesFaults: do all tell that place, and nothing beside it?
func wantSizesFaults(t *testing.T, h []api.Point, want int) {
	t.Helper()
	for _, a := range sizes() {
		if told, e := a.ask(h, false); told != a.none || !faultAt(e, want) {
			t.Errorf("%s: %s of %s: %s %v, not at %d", a.promise, a.name, seen(h...), told, e, want)
		}
	}
}

// Rounds that aren't right.
func TestSizesOfNotRight(t *testing.T) {
	t.Parallel()
	list := append(wrongRounds(), turned(wheel(300), 1), back(wheel(300)), slices.Repeat(wheel(300), 2))
	for _, h := range append(rounds(), gridHulls()...) {
		// One corner twice, and one that isn't its Norm.
		list = append(list, append(slices.Clone(h), h[len(h)-1]), append(slices.Clone(h), h[0]))
		for i, p := range h {
			for _, q := range below(p)[1:] {
				other := slices.Clone(h)
				other[i] = q
				list = append(list, other)
			}
		}
		if len(h) > 1 {
			list = append(list, turned(h, 1), turned(h, len(h)-1))
		}
		if len(h) > 2 {
			list = append(list, back(h))
		}
	}
	for _, h := range list {
		if isRight(h) {
			t.Errorf("%s is a right round", seen(h...))
		}
		for _, a := range sizes() {
			a.wantRefused(t, h, api.Below)
		}
	}
}

// Rounds without points.
func TestSizesOfNone(t *testing.T) {
	t.Parallel()
	for _, h := range [][]api.Point{nil, {}, round(1, 1, 2, 2)[:0]} {
		for _, a := range sizes() {
			if a.empty != nil {
				a.wantRefused(t, h, a.empty)
			} else if told, e := a.ask(h, false); told != a.none || e != nil {
				t.Errorf("%s: %s of no points: %s %v", a.promise, a.name, told, e)
			}
		}
	}
}

// One that isn't good, at the first place, the last one, and each other, and
// such behind it: the first is told, be the round right without it, or not.
func TestSizesOfBadPoints(t *testing.T) {
	t.Parallel()
	for k, bad := range bads() {
		for _, n := range []int{1, 2, 3, 4, 9, 40} {
			for place := range n {
				for _, h := range [][]api.Point{bowl(n, 0), back(bowl(n, -2)), slices.Repeat(round(1, 1), n), slices.Repeat(round(noughtBelow, 1), n)} {
					h[place] = bad
					wantSizesFaults(t, h, place)
					h[n-1] = bads()[(k+place)%len(bads())]
					wantSizesFaults(t, h, place)
					h[place+(n-place)/2] = bads()[n]
					wantSizesFaults(t, h, place)
				}
			}
		}
	}
	for place := range 30 {
		long := wheel(300)
		long[10*place] = bads()[place]
		wantSizesFaults(t, long, 10*place)
	}
}

// A fault is the caller's to change.
func TestSizesFaultsApart(t *testing.T) {
	t.Parallel()
	for range 3 {
		for _, a := range sizes() {
			_, e := a.ask(append(bowl(3, 0), bads()[1]), false)
			var f *api.Fault
			if !faultAt(e, 3) || !errors.As(e, &f) {
				t.Fatalf("%s: a fault, changed: %v", a.promise, e)
			}
			f.At, f.Err = 77, api.Range
		}
	}
}

// What is handed in stays as it is, its spare room too, and what is answered is
// the caller's to change: asked again, it is as it was.
func TestSizesApart(t *testing.T) {
	t.Parallel()
	list := append(rounds()[:80], wrongRounds()...)
	list = append(list, append(bowl(4, 0), bads()[3]), wheel(200), nil)
	for _, h := range list {
		all := slices.Concat(h, bowl(5, 3), bads()[:2])
		want := slices.Clone(all)
		for _, a := range sizes() {
			told, e := a.ask(all[:len(h)], true)
			again, e2 := a.ask(h, true)
			if !slices.Equal(all, want) {
				t.Fatalf("%s: %s changed %s", a.promise, a.name, seen(want...))
			}
			if told != again || (e == nil) != (e2 == nil) {
				t.Errorf("%s: %s of %s: %s %v, and then %s %v", a.promise, a.name, seen(h...), told, e, again, e2)
			}
		}
	}
}
