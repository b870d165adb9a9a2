package message_test

import (
	"fmt"
	"slices"
	"strings"
	"testing"

	"turnround/api"
	"turnround/message"
)

// printed is the definition of the line of an action and a request.
func printed(l message.Line) string {
	r := l.Request
	orNone := func(s string) string {
		if s == "" {
			return "-"
		}
		return s
	}
	mask := ""
	for w := range 7 {
		if r.Period.Days&(1<<w) != 0 {
			mask += fmt.Sprint(w + 1)
		} else {
			mask += "0"
		}
	}
	return fmt.Sprintf("%s %s %s %s %s %05d %05d %s %02d%02d %03d %d %02d %s %s",
		l.Action, r.Carrier, r.Name, r.Kind, r.Partner, r.Period.From, r.Period.To, mask,
		r.Minute/60, r.Minute%60, r.Seats, r.Size, r.Noise, orNone(r.Terminal), orNone(r.Link))
}

// P2.3: lines are printed as the table says, and parsed.
func TestPrintAndParseLine(t *testing.T) {
	for _, action := range slices.Concat(actionsOfRequests, actionsOfAnswers) {
		for _, r := range goodRequests() {
			l := line(action, r)
			s, e := message.PrintLine(l)
			is(t, "PrintLine", e, api.OK)
			is(t, "PrintLine", s, printed(l))
			back, at, e := message.ParseLine(printed(l))
			is(t, "ParseLine "+s, back, l)
			is(t, "ParseLine "+s, at, 0)
			is(t, "ParseLine "+s, e, api.OK)
		}
	}
	s, _ := message.PrintLine(line("N", q()))
	is(t, "the line of the example", s, line24)
	s, _ = message.PrintLine(line("H", with(at(5), linked("D", "q2"), func(r *api.Request) {
		r.Terminal, r.Period, r.Seats, r.Noise = "", api.Period{From: 0, To: 7, Days: 96}, 3, 4
	})))
	is(t, "a line with small numbers", s, "H ab q1 D far 00000 00007 0000067 0005 003 4 04 - q2")
}

// P2.3: a line with an error has no string.
func TestNoLines(t *testing.T) {
	for _, x := range badRequests() {
		s, e := message.PrintLine(line("N", x.r))
		is(t, "PrintLine: "+x.what, e, x.e)
		is(t, "PrintLine: "+x.what, s, "")
		s, e = message.PrintLine(line("?", x.r))
		is(t, "PrintLine without an action: "+x.what, e, api.ErrKind)
		is(t, "PrintLine without an action: "+x.what, s, "")
	}
}

// isWrongLine checks that a string is no line, from a word on.
func isWrongLine(t *testing.T, s string, at int, e api.Errno) {
	t.Helper()
	l, gotAt, gotE := message.ParseLine(s)
	is(t, fmt.Sprintf("index of ParseLine %q", s), gotAt, at)
	is(t, fmt.Sprintf("error of ParseLine %q", s), gotE, e)
	is(t, fmt.Sprintf("ParseLine %q", s), l, message.Line{})
}

// P2.3: a string that does not have 14 words is wrong behind its words, or at the last one if there are too many.
func TestNumbersOfWords(t *testing.T) {
	words := strings.Split(line24, " ")
	for n := 1; n < 14; n++ {
		isWrongLine(t, strings.Join(words[:n], " "), n, api.ErrSyntax)
		isWrongLine(t, strings.Repeat(" ", n-1), n, api.ErrSyntax)
	}
	isWrongLine(t, "", 1, api.ErrSyntax)
	isWrongLine(t, strings.Join(words[:12], " ")+" ", 13, api.ErrSyntax)
	isWrongLine(t, line24+" ", 13, api.ErrSyntax)
	isWrongLine(t, " "+line24, 13, api.ErrSyntax)
	isWrongLine(t, line24+" x", 13, api.ErrSyntax)
	isWrongLine(t, line24+" "+line24, 13, api.ErrSyntax)
	isWrongLine(t, strings.Replace(line24, " ", "  ", 1), 13, api.ErrSyntax)
	isWrongLine(t, strings.Repeat(" ", 5000), 13, api.ErrSyntax)
	isWrongLine(t, "Z "+line24, 13, api.ErrSyntax)
	isWrongLine(t, strings.Join(words, "\t"), 1, api.ErrSyntax)
	isWrongLine(t, strings.Join(words[1:], " "), 13, api.ErrSyntax)
}

// badWords returns strings without blanks that cannot be the word of a line at an index.
func badWords(at int) []string {
	without := func(list ...string) []string {
		return slices.DeleteFunc(list, func(s string) bool { return strings.Contains(s, " ") })
	}
	digits := func(width int) []string {
		var all []string
		for n := range 8 {
			if n != width {
				all = append(all, strings.Repeat("1", n))
			}
		}
		rest := strings.Repeat("1", width-1)
		for _, s := range []string{"-", "+", "a", "_", ".", "x", "/", ":", "\n", "\x00", "\xff", "\u0661"} {
			all = append(all, s+rest, rest+s)
		}
		if width > 1 {
			all = append(all, strings.Repeat("\xc3", width), "\u0661"+strings.Repeat("1", width-2))
		}
		return all
	}
	names := without(append([]string{"", "--", "-a", "\n"}, noNames...)...)
	switch at {
	case 0:
		return []string{"", "n", "A", "Z", "NN", "NH", "-", "\n", "N\n", "\xff", "E"}
	case 1, 2, 4:
		return names
	case 3:
		return []string{"", "a", "T", "AD", "-", "A\n", "\xff"}
	case 5, 6:
		return digits(5)
	case 7:
		return []string{"", "0000000", "1030001", "2030000", "103000", "10300000", "1030008", "103000x", "103000\n", "-030000", "10300é", "\xff\xff\xff\xff\xff\xff\xff", "1111111", "7654321"}
	case 8:
		return []string{"", "2400", "2360", "0060", "9999", "100", "10050", "10:5", "-005", "100\n", "10é", "\xff\xff\xff\xff"}
	case 9:
		return digits(3)
	case 10:
		return digits(1)
	case 11:
		return digits(2)
	}
	return without(append([]string{"", "--", "-a", "\n", "-\n"}, noNames[1:]...)...)
}

// P2.3: the first word that cannot be one of a line by itself decides.
func TestWrongWords(t *testing.T) {
	words := strings.Split(line24, " ")
	for i := range words {
		for _, bad := range badWords(i) {
			changed := slices.Clone(words)
			changed[i] = bad
			isWrongLine(t, strings.Join(changed, " "), i, api.ErrSyntax)
			for j := i + 1; j < len(words); j++ {
				changed[j] = badWords(j)[0]
			}
			isWrongLine(t, strings.Join(changed, " "), i, api.ErrSyntax)
		}
	}
}

// P2.3: words that are each one of a line by itself can be a line with an error; a wrong word comes first.
func TestWrongLines(t *testing.T) {
	for _, x := range []struct {
		s string
		e api.Errno
	}{
		{"N ab q1 A far 08900 08899 1030000 1005 180 4 12 t1 -", api.ErrOrder},
		{"N ab q1 A far 08900 09301 1030000 1005 180 4 12 t1 -", api.ErrLarge},
		{"N ab q1 A far 00000 99999 1030000 1005 180 0 12 t1 -", api.ErrLarge},
		{"N ab q1 A far 08900 08920 1030000 1005 180 0 12 t1 -", api.ErrRange},
		{"N ab q1 A far 08900 08920 1030000 1005 180 4 12 t1 q1", api.ErrPair},
		{"X ab q1 A far 08900 08899 1030000 1005 180 0 12 - q1", api.ErrPair},
		{"R ab q1 A far 08900 08899 1030000 1005 180 0 12 - q2", api.ErrOrder},
	} {
		isWrongLine(t, x.s, 14, x.e)
		words := strings.Split(x.s, " ")
		words[13] = "?"
		isWrongLine(t, strings.Join(words, " "), 13, api.ErrSyntax)
	}
}
