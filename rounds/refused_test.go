package rounds_test

import (
	"errors"
	"fmt"
	"slices"
	"testing"

	"outrigger/api"
	"outrigger/inside"
)

// question: a call that is asked of a round and a point, and the promise that
// it keeps.
type question struct {
	name, promise string
	ask           func(h []api.Point, q api.Point) (int, error)
}

// questions: all of them.
func questions() []question {
	list := []question{{"inside.Where", "P16.1", inside.Where}}
	for _, s := range sides() {
		list = append(list, s.question)
	}
	return list
}

// wantRefused: does it tell that, and 0 beside it?
func (a question) wantRefused(t *testing.T, h []api.Point, q api.Point, want error) {
	t.Helper()
	if told, e := a.ask(h, q); told != 0 || e == nil || !errors.Is(e, want) {
		t.Errorf("%s: %s of %s from %s: %d %v, not %v", a.promise, a.name, seen(h...), seen(q), told, e, want)
	}
}

// faultAt: is it a fault of BadPoint, and nothing else, at that place, and
// told as the document says faults are?
func faultAt(e error, place int) bool {
	var f *api.Fault
	var c api.Code
	return errors.As(e, &f) && f.At == place && f.Err != nil && f.Err == api.BadPoint &&
		errors.As(e, &c) && c == api.BadPoint && errors.Is(e, api.BadPoint) && e.Error() == fmt.Sprintf("%d: E1", place)
}

// wantFaults: do all tell that place, and 0 beside it?
func wantFaults(t *testing.T, h []api.Point, q api.Point, want int) {
	t.Helper()
	for _, a := range questions() {
		if told, e := a.ask(h, q); told != 0 || !faultAt(e, want) {
			t.Errorf("%s: %s of %s from %s: %d %v, not at %d", a.promise, a.name, seen(h...), seen(q), told, e, want)
		}
	}
}

// Rounds that aren't right, whatever is asked of them: from without, from their
// points, from within, and from points that Holds says that they hold.
func TestNotRight(t *testing.T) {
	t.Parallel()
	by := dice(4)
	for _, h := range wrongRounds() {
		if isRight(h) {
			t.Errorf("%s is a right round", seen(h...))
		}
		for _, q := range append(around(h, by), round(1, 1, 1, 0, 9, 9, -1, -1, 0.5, 1, 5, 1)...) {
			for _, a := range questions() {
				a.wantRefused(t, h, q, api.Below)
			}
		}
	}
}

// One that isn't good, at the first place, the last one, and each other, and
// such behind it: the first is told, be the round right without it, or not.
func TestBadPoints(t *testing.T) {
	t.Parallel()
	for k, bad := range bads() {
		for _, n := range []int{1, 2, 3, 4, 9, 40} {
			for place := range n {
				for _, h := range [][]api.Point{bowl(n, 0), back(bowl(n, -2)), slices.Repeat(round(1, 1), n)} {
					h[place] = bad
					wantFaults(t, h, at(0, 1), place)
					wantFaults(t, h, at(-7, -7), place)
					wantFaults(t, h, bad, place)
					h[n-1] = bads()[(k+place)%len(bads())]
					wantFaults(t, h, at(0, 1), place)
					h[place+(n-place)/2] = bads()[n]
					wantFaults(t, h, h[place], place)
				}
			}
		}
	}
	for place := range 30 {
		long := wheel(300)
		long[10*place] = bads()[place]
		wantFaults(t, long, at(0, 0), 10*place)
	}
}

// q counts behind the corners: alone wrong it is told there, be the round right,
// or not, or without points.
func TestBadAsked(t *testing.T) {
	t.Parallel()
	list := append(rounds()[:40], wrongRounds()...)
	list = append(list, nil, []api.Point{}, wheel(300), slices.Repeat(wheel(50), 100))
	for _, bad := range bads() {
		for _, h := range list {
			wantFaults(t, h, bad, len(h))
		}
	}
}

// A fault is the caller's to change.
func TestFaultsApart(t *testing.T) {
	t.Parallel()
	for range 3 {
		for _, a := range questions() {
			_, e := a.ask(bowl(3, 0), bads()[1])
			var f *api.Fault
			if !faultAt(e, 3) || !errors.As(e, &f) {
				t.Fatalf("%s: a fault, changed: %v", a.promise, e)
			}
			f.At, f.Err = 77, api.Range
		}
	}
}

// What is handed in stays as it is, its spare room too, whatever is answered.
func TestUnchanged(t *testing.T) {
	t.Parallel()
	list := append(rounds()[:60], wrongRounds()...)
	list = append(list, append(bowl(4, 0), bads()[3]), wheel(200))
	for i, h := range list {
		all := slices.Concat(h, bowl(5, 3), bads()[:2])
		want := slices.Clone(all)
		for _, q := range append(round(0, 0, 7, -5, greatest, 1), bads()[i%60], h[0]) {
			for _, a := range questions() {
				told, e := a.ask(all[:len(h)], q)
				again, e2 := a.ask(h, q)
				if !slices.Equal(all, want) {
					t.Fatalf("%s: %s changed %s from %s", a.promise, a.name, seen(want...), seen(q))
				}
				if told != again || (e == nil) != (e2 == nil) {
					t.Errorf("%s: %s of %s from %s: %d %v, and then %d %v", a.promise, a.name, seen(h...), seen(q), told, e, again, e2)
				}
			}
		}
	}
}
