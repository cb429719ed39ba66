package script

import (
	"strconv"
	"strings"

	"outrigger/api"
	"outrigger/desk"
	"outrigger/ratio"
)

// sheet holds the points that a script has put there.
type sheet struct{ points []api.Point }

// kind is what the lines of one name have in common: how the words behind it
// are read, and what such a line tells, which is no line at all where it is
// the empty text.
type kind struct {
	read func(words []string) (given, bool)
	tell func(s *sheet, g given) (string, error)
}

// kinds: all that there are, by their names.
func kinds() map[string]kind {
	return map[string]kind{
		"point":    {aPoint, (*sheet).point},
		"clear":    {nothing, (*sheet).clear},
		"hull":     {aWay, (*sheet).hull},
		"contains": {aPoint, (*sheet).contains},
		"tangents": {aPoint, (*sheet).tangents},
		"diameter": {nothing, (*sheet).diameter},
		"width":    {nothing, (*sheet).width},
	}
}

// point puts one more there, be it good or not: what asks of the points tells.
func (s *sheet) point(g given) (string, error) {
	s.points = append(s.points, g.point)
	return "", nil
}

func (s *sheet) clear(given) (string, error) {
	s.points = nil
	return "", nil
}

func (s *sheet) hull(g given) (string, error) {
	h, e := desk.Hull(s.points, g.way)
	words := []string{"hull"}
	for _, p := range h {
		words = append(words, bitsText(p.X)+","+bitsText(p.Y))
	}
	return strings.Join(words, blank), e
}

func (s *sheet) contains(g given) (string, error) {
	where, e := desk.Contains(s.points, g.point)
	switch where {
	case api.Inside:
		return "inside", e
	case api.Boundary:
		return "boundary", e
	}
	return "outside", e
}

func (s *sheet) tangents(g given) (string, error) {
	left, right, e := desk.Tangents(s.points, g.point)
	return "tangents " + strconv.Itoa(left) + blank + strconv.Itoa(right), e
}

func (s *sheet) diameter(given) (string, error) {
	far, i, j, e := desk.Diameter(s.points)
	if e != nil {
		return "", e
	}
	text, e := ratio.Text(far)
	return "diameter " + text + blank + strconv.Itoa(i) + blank + strconv.Itoa(j), e
}

func (s *sheet) width(given) (string, error) {
	width, e := desk.Width(s.points)
	if e != nil {
		return "", e
	}
	text, e := ratio.Text(width)
	return "width " + text, e
}
