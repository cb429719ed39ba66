package script_test

import (
	"errors"
	"fmt"
	"math/rand/v2"
	"regexp"
	"slices"
	"strings"
	"testing"

	"outrigger/api"
	"outrigger/script"
)

// names: all that there are, and whether bits, a number, or nothing follows.
var names = map[string]string{"point": "bits", "clear": "", "hull": "number", "contains": "bits", "tangents": "bits", "diameter": "", "width": ""}

// fineLines: one of each name.
func fineLines() []string {
	bits := words(at(1, -3))
	return []string{"point " + bits, "hull 3", "width", "clear", "contains " + bits, "hull 7", "diameter", "tangents " + bits}
}

// wantFault: is the script refused, at that line, by that code, and nothing told?
func wantFault(t *testing.T, text string, line int, code api.Code) {
	t.Helper()
	told, e := script.Run(text)
	var f *api.Fault
	var c api.Code
	if told != "" || !errors.As(e, &f) || f.At != line || !errors.Is(e, code) || !errors.As(e, &c) || c != code || e.Error() != fmt.Sprintf("%d: E%d", line, int(code)) {
		t.Errorf("P20.1: %.300q: %.300q %v, not a fault of %v at %d", text, told, e, code, line)
	}
}

// wantRange: is the script too long, and nothing told?
func wantRange(t *testing.T, text string) {
	t.Helper()
	told, e := script.Run(text)
	var f *api.Fault
	var c api.Code
	if told != "" || !errors.Is(e, api.Range) || !errors.As(e, &c) || c != api.Range || errors.As(e, &f) {
		t.Errorf("P20.1: %.60q, %d bytes: %.60q %v, not %v", text, len(text), told, e, api.Range)
	}
}

// wantWrong holds a line that there is not against its code, wherever it stands
// in a script; two of them, too, of which the first one counts.
func wantWrong(t *testing.T, line string, code api.Code) {
	t.Helper()
	fine := fineLines()
	before, behind := strings.Join(fine, "\n")+"\n", "\n"+strings.Join(fine, "\n")
	other, otherCode := "width width", api.BadLine
	if code == api.BadLine {
		other, otherCode = "", api.BadName
	}
	n := len(fine) + 1
	if line != "" {
		wantFault(t, line, 1, code)
		wantFault(t, before+line, n, code)
	}
	wantFault(t, line+"\n", 1, code)
	wantFault(t, line+behind, 1, code)
	wantFault(t, before+line+"\n", n, code)
	wantFault(t, before+line+behind, n, code)
	wantFault(t, before+before+line+behind+behind, 2*n-1, code)
	wantFault(t, line+"\n"+line+"\n", 1, code)
	wantFault(t, line+"\n"+other+"\n", 1, code)
	wantFault(t, other+"\n"+line+"\n", 1, otherCode)
	wantFault(t, before+line+"\n"+other+behind, n, code)
	wantFault(t, before+other+"\n"+line+behind, n, otherCode)
	wantFault(t, fine[0]+"\n"+line+behind+"\n"+other+"\n", 2, code)
}

// unnamed: lines whose first word is no name.
func unnamed() []string {
	list := []string{"", " ", "  ", "\t", "\r", "\x00", "\xff", "\xff\xfe\xfd", "0", "E5", "#", "foo", "foo bar baz", "p", "s", "outside", "points", "hull0", "hull,0", "hull\t0", "line", "-", "bits", "width;clear", "width\rwidth", "κύτος", "ｗidth", "wıdth", "\ufeffwidth", "width\u00a0", "hull\u00a00", "clear\u2028clear"}
	for name := range names {
		first, last := name[:1], name[len(name)-1:]
		rest := map[string]string{"bits": " " + words(at(0, 1)), "number": " 2"}[names[name]]
		for _, wrong := range []string{
			strings.ToUpper(name), strings.ToUpper(first) + name[1:], name[:len(name)-1] + strings.ToUpper(last), name[1:], name[:len(name)-1], name[:1] + name[2:], name + last, first + name, name + "s", name + "0", name + "_", name + ":", name + ",", name + "\t", name + "\r", name + "\v", name + "\x00", "\x00" + name, "\t" + name, "\r" + name, name[:2] + "\x00" + name[2:], name[:2] + "\xff" + name[2:], name[:2] + " " + name[2:], `"` + name + `"`, name + "\u00a0", "", " ", " " + name, "  " + name,
		} {
			list = append(list, wrong+rest, wrong)
		}
	}
	return list
}

// No name: whatever stands behind it.
func TestNoName(t *testing.T) {
	t.Parallel()
	for _, line := range unnamed() {
		wantWrong(t, line, api.BadName)
		wantWrong(t, line+" ", api.BadName)
		wantWrong(t, line+" width", api.BadName)
	}
	wantFault(t, "\n", 1, api.BadName)
	wantFault(t, "\n\n", 1, api.BadName)
	wantFault(t, "width\n\n", 2, api.BadName)
	wantFault(t, "width\n\nwidth", 2, api.BadName)
	wantFault(t, "\nwidth", 1, api.BadName)
	wantFault(t, "width\r\nwidth\r\n", 1, api.BadName)
	wantFault(t, "width\nwidth\r\n", 2, api.BadName)
	wantFault(t, "width\nhull 0\n \n", 3, api.BadName)
}

// wrongBits: words that are no bits.
func wrongBits() []string {
	list := []string{
		"", "0", "1", "000000000000000", "00000000000000000", "0000000000000001 ", "ffffffffffffffff0", "0ffffffffffffffff", "10000000000000000", "3ff000000000000", "3ff00000000000000", strings.Repeat("0", 32), strings.Repeat("f", 1000),
		"3FF0000000000000", "3fF0000000000000", "000000000000000A", "F000000000000000", "ABCDEFABCDEFABCD",
		"+000000000000000", "-000000000000000", "+0000000000000000", "-0000000000000000", "+3ff000000000000", "000000000000000+", "0x00000000000000", "0x0000000000000000", "0X00000000000000", "0o00000000000000", "0x3ff00000000000", "0_00000000000000", "0000_0000_0000_0", "_000000000000000", "000000000000000_",
		"0.00000000000000", "1e00000000000+00", "00000000 0000000", "0000000000000000,", "000000000000000\t", "0000000000000000\t", "\t0000000000000000", "0000000000000000\r", "000000000000000\r", "000000000000000\x00", "\x00000000000000000", "0000000000000000\x00", "0000000000000000h", "infinity", "nan", "1", "1.5", "-2",
		"٠٠٠٠٠٠٠٠", "٠٠٠٠٠٠٠٠٠٠٠٠٠٠٠٠", "０００００", "\xff\xff\xff\xff\xff\xff\xff\xff\xff\xff\xff\xff\xff\xff\xff\xff",
	}
	for _, sign := range "gGzZ/:@`{-+ .,~" {
		for _, place := range []int{0, 7, 15} {
			list = append(list, "123456789abcdef0"[:place]+string(sign)+"123456789abcdef0"[place+1:])
		}
	}
	return list
}

// wrongLines: lines that begin with a name, and are none.
func wrongLines() (list []string) {
	const bits = "3ff0000000000000"
	for name, behind := range names {
		list = append(list, name+" ", name+"  ", name+" x", name+" "+name, name+" \r", name+" \t", name+" \x00")
		switch behind {
		case "":
			list = append(list, name+" 0", name+" 1", name+" "+bits, name+" "+bits+" "+bits, name+" clear", name+" 0 ", name+"  0", name+"                ")
		case "number":
			list = append(list, name, name+" 0 ", name+"  0", name+" 0 0", name+" 0  0", name+" 0 1 2", name+" "+bits, name+" "+bits+" "+bits)
			for _, wrong := range []string{"00", "01", "10", "99", "000", "0000000000000000", "+1", "-1", "+0", "-0", "-", "+", "a", "f", "x", "0x1", "1.", ".1", "1e0", "/", ":", "\x00", "\x2f", "\x3a", "0\r", "0\t", "\t0", "٣", "３", "\xff", "\xb0", "0,", "²", "18446744073709551616"} {
				list = append(list, name+" "+wrong)
			}
		case "bits":
			list = append(list, name, name+" "+bits, name+" "+bits+" ", name+"  "+bits, name+" "+bits+"  "+bits, name+"  "+bits+" "+bits, name+" "+bits+" "+bits+" ", name+" "+bits+" "+bits+"  ", name+" "+bits+" "+bits+" "+bits, name+" "+bits+" "+bits+"\r", name+" "+bits+bits, name+" "+bits+","+bits, name+" "+bits+"\t"+bits, name+" "+bits+" "+bits+" 0", name+" 0 0", name+" 1 2")
			for _, wrong := range wrongBits() {
				list = append(list, name+" "+wrong+" "+bits, name+" "+bits+" "+wrong, name+" "+wrong+" "+wrong)
			}
		}
	}
	return list
}

// A name, and what is no line of it.
func TestNoLine(t *testing.T) {
	t.Parallel()
	for _, line := range wrongLines() {
		wantWrong(t, line, api.BadLine)
	}
}

// Of many lines, each in its turn that which there is not.
func TestEachPlace(t *testing.T) {
	t.Parallel()
	by := dice(10)
	for n := range 12 {
		s := tale(1+9*n, n, by)
		for place := range s.lines {
			for wrong, code := range map[string]api.Code{"": api.BadName, "hull": api.BadLine} {
				lines := slices.Clone(s.lines)
				lines[place] = wrong
				wantFault(t, strings.Join(lines, "\n")+"\n", place+1, code)
				if place+1 < len(lines) {
					lines[place+1+by.IntN(len(lines)-place-1)] = []string{" ", "width width"}[by.IntN(2)]
					wantFault(t, strings.Join(lines, "\n")+"\n", place+1, code)
				}
			}
		}
	}
}

// fullText: fine lines, so many bytes in all.
func fullText(n int, end string) string {
	short, long := "clear\n", "hull 0\n"
	text := ""
	for (n-len(text)-len(end))%len(short) != 0 {
		text += long
	}
	return text + strings.Repeat(short, (n-len(text)-len(end))/len(short)) + end
}

// Just MaxText bytes are told, or refused by a line, and one more is too much,
// whatever stands there.
func TestMaxText(t *testing.T) {
	t.Parallel()
	for _, end := range []string{"", "width", "hull 0\n", "width\nhull 9", "diameter\n"} {
		for _, n := range []int{api.MaxText - 1, api.MaxText} {
			text := fullText(n, end)
			want := strings.Repeat("hull\n", strings.Count(text, "hull 0"))
			want += strings.Repeat("E2\n", strings.Count(text, "width")+strings.Count(text, "diameter")) + strings.Repeat("E5\n", strings.Count(text, "hull 9"))
			if len(text) != n {
				t.Fatalf("%d bytes", len(text))
			}
			wantTold(t, "P20.1", text, want)
		}
		wantRange(t, fullText(api.MaxText+1, end))
		wantRange(t, fullText(api.MaxText+2, end))
	}
	// As many points as there can be, and what asks of them.
	full := strings.Repeat(script.Line(at(1, 2))+"\n", 1636) + script.Line(at(3, 3)) + "\n" + script.Line(at(2, 9)) + "\nhull 0\ndiameter\n"
	want := "hull 3ff0000000000000,4000000000000000 4008000000000000,4008000000000000 4000000000000000,4022000000000000\ndiameter 50 0 2\n"
	if len(full) != api.MaxText {
		t.Fatalf("%d bytes", len(full))
	}
	wantTold(t, "P20.1", full, want)
	wantRange(t, full+"\n")
	wantRange(t, "\n"+full)
	wantRange(t, full+"x")
	wantRange(t, full+full)
	for _, part := range []string{"\n", " ", "x", "\x00", "\xff", "\r\n", "clear\n", "width width\n", "κ", "point\n"} {
		for _, n := range []int{api.MaxText + 1, api.MaxText + 2, 70000, 1 << 20} {
			wantRange(t, strings.Repeat(part, n)[:n])
		}
	}
	for _, part := range []string{"\n", " ", "x", "\x00", "\xff", "\r\n", "κ"} {
		wantFault(t, strings.Repeat(part, api.MaxText)[:api.MaxText], 1, api.BadName)
	}
	wantFault(t, strings.Repeat("width ", api.MaxText)[:api.MaxText], 1, api.BadLine)
	wantFault(t, fullText(api.MaxText, "\n"), strings.Count(fullText(api.MaxText, "\n"), "\n"), api.BadName)
	wantFault(t, fullText(api.MaxText, "hull"), strings.Count(fullText(api.MaxText, "hull"), "\n")+1, api.BadLine)
}

// form: the lines that there are, by the chapter's words.
var form = regexp.MustCompile(`^(point|contains|tangents) [0-9a-f]{16} [0-9a-f]{16}$|^(clear|diameter|width)$|^hull [0-9]$`)

// asks: the lines that tell one.
var asks = regexp.MustCompile(`^(hull|contains|tangents|diameter|width)`)

// firstWrong: the place of the first line that there is not, and its code; 0, if
// all are fine, and how many tell a line.
func firstWrong(text string) (line int, code api.Code, tell int) {
	lines := strings.Split(text, "\n")
	if n := len(lines) - 1; lines[n] == "" {
		lines = lines[:n]
	}
	for i, line := range lines {
		if !form.MatchString(line) {
			if _, named := names[strings.SplitN(line, " ", 2)[0]]; named {
				return i + 1, api.BadLine, 0
			}
			return i + 1, api.BadName, 0
		}
		if asks.MatchString(line) {
			tell++
		}
	}
	return 0, 0, tell
}

// marred: the text, a few of its bytes others, more or gone.
func marred(text string, by *rand.Rand) string {
	b := []byte(text)
	const signs = " \n0189afgFx+-_\r\t\x00\xffpointclearhulls"
	for range 1 + by.IntN(3) {
		place := by.IntN(len(b) + 1)
		switch sign := signs[by.IntN(len(signs))]; {
		case place < len(b) && by.IntN(3) == 0:
			b[place] = sign
		case place < len(b) && by.IntN(2) == 0:
			b = slices.Delete(b, place, place+1)
		default:
			b = slices.Insert(b, place, sign)
		}
	}
	return string(b)
}

// Texts that are nearly scripts.
func TestMarred(t *testing.T) {
	t.Parallel()
	by := dice(11)
	told := map[api.Code]int{}
	for n := range 20000 {
		fine := fineLines()
		by.Shuffle(len(fine), func(i, k int) { fine[i], fine[k] = fine[k], fine[i] })
		text := marred(strings.Join(fine[:n%len(fine)+1], "\n")+[]string{"", "\n"}[by.IntN(2)], by)
		line, code, tell := firstWrong(text)
		told[code]++
		if line > 0 {
			wantFault(t, text, line, code)
		} else if got, e := script.Run(text); e != nil || strings.Count(got, "\n") != tell {
			t.Errorf("P20.1: %q: %v %q, not %d lines", text, e, got, tell)
		}
	}
	if told[0] < 300 || told[api.BadName] < 2000 || told[api.BadLine] < 2000 {
		t.Errorf("%v", told)
	}
}

// Faults are the caller's to change.
func TestFaultsApart(t *testing.T) {
	t.Parallel()
	for range 3 {
		for text, code := range map[string]api.Code{"width\n\n": api.BadName, "clear\nhull": api.BadLine} {
			wantFault(t, text, 2, code)
			_, e := script.Run(text)
			var f *api.Fault
			if errors.As(e, &f) {
				f.At, f.Err = 77, api.Range
			}
		}
	}
}
