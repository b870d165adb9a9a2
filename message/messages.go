package message

import (
	"strings"

	"turnround/api"
	"turnround/check"
	"turnround/lists"
	"turnround/numerals"
)

const (
	longestText = 4 * api.MaxText

	headerWord  = "SLOTS"
	headerWords = 5
	footerWord  = "END"
	countWidth  = 2

	seasonBytes = 5
)

// CheckMessage returns the first error of a message, or OK.
func CheckMessage(m Message) api.Errno {
	if e := check.First(checkHeader(m), check.Unless(len(m.Lines) <= MaxLines, api.ErrMany)); e != api.OK {
		return e
	}
	_, e := wrongLine(m)
	return e
}

// PrintMessage returns the string of a message.
func PrintMessage(m Message) (string, api.Errno) {
	if e := CheckMessage(m); e != api.OK {
		return "", e
	}
	lines := lists.Transform(m.Lines, func(l Line) string { return printLine(l) + "\n" })
	return printHeader(m) + strings.Join(lines, "") + printFooter(len(lines)), api.OK
}

// ParseMessage returns the message of a string, and the index of the first line that is wrong.
func ParseMessage(s string) (Message, int, api.Errno) {
	if len(s) > longestText {
		return Message{}, 0, api.ErrLong
	}
	m, at, e := readMessage(s)
	if e != api.OK {
		return Message{}, at, e
	}
	if at, e := wrongLine(m); e != api.OK {
		// The header stands before the lines.
		return Message{}, at + 1, e
	}
	return m, 0, api.OK
}

// checkHeader returns the first error of what stands in the header of a message.
func checkHeader(m Message) api.Errno {
	return check.First(
		check.Unless(m.Kind == Requesting || m.Kind == Answering, api.ErrKind),
		check.Name(m.Airport),
		check.Unless(isSeason(m.Season), api.ErrForm),
		check.Day(m.Day),
	)
}

func isSeason(s string) bool {
	if len(s) != seasonBytes {
		return false
	}
	_, ok := numerals.Fixed(s[1:], seasonBytes-1)
	return ok && (s[0] == 'S' || s[0] == 'W')
}

// wrongLine returns the index and the error of the first line of a message with an error, or OK.
func wrongLine(m Message) (int, api.Errno) {
	kinds := kindsOfActions()
	var before Line
	for i, l := range m.Lines {
		e := check.First(
			CheckLine(l),
			check.Unless(kinds[l.Action] == m.Kind, api.ErrRule),
			check.Unless(mayFollow(before, l), api.ErrOrder),
		)
		if e != api.OK {
			return i, e
		}
		before = l
	}
	if before.Action == oldRequest {
		return len(m.Lines) - 1, api.ErrOrder
	}
	return 0, api.OK
}

// mayFollow reports whether a line may stand behind another one, or be the first one if that is empty.
func mayFollow(before, l Line) bool {
	if before.Action != oldRequest {
		return l.Action != changedRequest
	}
	return l.Action == changedRequest && identityOf(l.Request) == identityOf(before.Request)
}

// readMessage reads the lines of a text one by one: it returns the message, or the index and the error of the first line that is wrong by itself.
func readMessage(s string) (Message, int, api.Errno) {
	var m Message
	at := 0
	ended := false
	for text := range strings.Lines(s) {
		e := api.OK
		switch line, whole := strings.CutSuffix(text, "\n"); {
		case !whole || ended:
			e = api.ErrSyntax
		case at == 0:
			m, e = readHeader(line)
		case isFooter(line):
			ended = true
			e = checkFooter(line, len(m.Lines))
		default:
			m.Lines, e = readLine(m.Lines, line)
		}
		if e != api.OK {
			return Message{}, at, e
		}
		at++
	}
	return m, at, check.Unless(ended, api.ErrTorn)
}

func readHeader(s string) (Message, api.Errno) {
	if countWords(s) != headerWords {
		return Message{}, api.ErrSyntax
	}
	var parts [headerWords]string
	for i, word := range wordsOf(s) {
		parts[i] = word
	}
	day, ok := numerals.Fixed(parts[4], dayWidth)
	m := Message{Kind: parts[1], Airport: parts[2], Season: parts[3], Day: day}
	if !ok || parts[0] != headerWord || checkHeader(m) != api.OK {
		return Message{}, api.ErrSyntax
	}
	return m, api.OK
}

func printHeader(m Message) string {
	parts := [headerWords]string{headerWord, m.Kind, m.Airport, m.Season, numerals.Padded(m.Day, dayWidth)}
	return strings.Join(parts[:], " ") + "\n"
}

// readLine returns the lines with one more.
func readLine(lines []Line, s string) ([]Line, api.Errno) {
	l, _, e := ParseLine(s)
	return append(lines, l), check.First(e, check.Unless(len(lines) < MaxLines, api.ErrMany))
}

func isFooter(s string) bool {
	first, _, _ := strings.Cut(s, " ")
	return first == footerWord
}

func checkFooter(s string, lines int) api.Errno {
	count, found := strings.CutPrefix(s, footerWord+" ")
	n, ok := numerals.Fixed(count, countWidth)
	return check.First(
		check.Unless(found && ok, api.ErrSyntax),
		check.Unless(n == lines, api.ErrCheck),
	)
}

func printFooter(lines int) string {
	return footerWord + " " + numerals.Padded(lines, countWidth) + "\n"
}
