package script

import (
	"strconv"
	"strings"

	"outrigger/api"
)

// What parts words, and ends lines.
const (
	blank   = " "
	lineEnd = "\n"
)

// bitsLength: so many signs are bits.
const bitsLength = 16

// given is what the words behind a name say: of the kinds of lines, each takes
// the part that its words are about.
type given struct {
	point api.Point
	way   int
}

// line is a line that there is: what its name is about, and what is given.
type line struct {
	kind  kind
	given given
}

// read takes all lines apart, up to the first that there is not.
func read(text string) (lines []line, e error) {
	all := kinds()
	for s := range strings.Lines(text) {
		words := strings.Split(strings.TrimSuffix(s, lineEnd), blank)
		k, named := all[words[0]]
		if !named {
			return nil, &api.Fault{At: len(lines) + 1, Err: api.BadName}
		}
		g, fine := k.read(words[1:])
		if !fine {
			return nil, &api.Fault{At: len(lines) + 1, Err: api.BadLine}
		}
		lines = append(lines, line{k, g})
	}
	return lines, nil
}

// nothing reads no words.
func nothing(words []string) (given, bool) {
	return given{}, len(words) == 0
}

// aWay reads a digit. Whether there is such a way isn't for the line to say.
func aWay(words []string) (given, bool) {
	if len(words) != 1 || len(words[0]) != 1 {
		return given{}, false
	}
	digit := words[0][0]
	return given{way: int(digit - '0')}, '0' <= digit && digit <= '9'
}

// aPoint reads the bits of both coordinates.
func aPoint(words []string) (given, bool) {
	if len(words) != 2 {
		return given{}, false
	}
	x, fineX := readBits(words[0])
	y, fineY := readBits(words[1])
	return given{point: api.Point{X: x, Y: y}}, fineX && fineY
}

// readBits: of all that is read as some bits, one text alone is theirs.
func readBits(s string) (uint64, bool) {
	b, _ := strconv.ParseUint(s, 16, 64)
	return b, bitsText(b) == s
}

// bitsText tells bits, with all noughts ahead.
func bitsText(b uint64) string {
	digits := strconv.FormatUint(b, 16)
	return strings.Repeat("0", bitsLength-len(digits)) + digits
}
