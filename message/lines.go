package message

import (
	"iter"
	"strings"

	"turnround/api"
	"turnround/calendar"
	"turnround/check"
	"turnround/lists"
	"turnround/numerals"
)

// The actions of requests.
const (
	newRequest       = "N"
	historicRequest  = "H"
	oldRequest       = "C"
	changedRequest   = "R"
	withdrawnRequest = "D"
)

// The actions of answers.
const (
	grantedAnswer   = "K"
	movedAnswer     = "O"
	refusedAnswer   = "U"
	withdrawnAnswer = "X"
)

const (
	lineWords = 14
	dayWidth  = 5

	// noName stands in a line for a name that is empty.
	noName = "-"
)

// field is a word of a line: show returns it, and read puts it into a line that does not have it yet, or reports that it cannot be this word by itself.
type field struct {
	show func(l Line) string
	read func(l *Line, word string) bool
}

// CheckLine returns the first error of a line, or OK.
func CheckLine(l Line) api.Errno {
	return check.First(check.Unless(isAction(l.Action), api.ErrKind), CheckRequest(l.Request))
}

// PrintLine returns the string of a line.
func PrintLine(l Line) (string, api.Errno) {
	if e := CheckLine(l); e != api.OK {
		return "", e
	}
	return printLine(l), api.OK
}

// ParseLine returns the line of a string, and the index of the first word that is wrong.
func ParseLine(s string) (Line, int, api.Errno) {
	if n := countWords(s); n != lineWords {
		return Line{}, min(n, lineWords-1), api.ErrSyntax
	}
	var l Line
	all := fields()
	for i, word := range wordsOf(s) {
		if !all[i].read(&l, word) {
			return Line{}, i, api.ErrSyntax
		}
	}
	if e := CheckLine(l); e != api.OK {
		return Line{}, lineWords, e
	}
	return l, 0, api.OK
}

// printLine is PrintLine for a line without error.
func printLine(l Line) string {
	all := fields()
	words := lists.Transform(all[:], func(f field) string { return f.show(l) })
	return strings.Join(words, " ")
}

// kindsOfActions returns for each action the kind of the messages that may have it.
func kindsOfActions() map[string]string {
	return map[string]string{
		newRequest:       Requesting,
		historicRequest:  Requesting,
		oldRequest:       Requesting,
		changedRequest:   Requesting,
		withdrawnRequest: Requesting,
		grantedAnswer:    Answering,
		movedAnswer:      Answering,
		refusedAnswer:    Answering,
		withdrawnAnswer:  Answering,
	}
}

func isAction(s string) bool {
	_, found := kindsOfActions()[s]
	return found
}

func countWords(s string) int { return strings.Count(s, " ") + 1 }

// wordsOf visits the words of a text, between its blanks, with their indices.
func wordsOf(s string) iter.Seq2[int, string] {
	return func(yield func(int, string) bool) {
		rest := s
		for i := range countWords(s) {
			var word string
			word, rest, _ = strings.Cut(rest, " ")
			if !yield(i, word) {
				return
			}
		}
	}
}

// fields returns the fields of a line, in the order of its words.
func fields() [lineWords]field {
	return [lineWords]field{
		textField(func(l *Line) *string { return &l.Action }, isAction),
		textField(func(l *Line) *string { return &l.Request.Carrier }, calendar.IsName),
		textField(func(l *Line) *string { return &l.Request.Name }, calendar.IsName),
		textField(func(l *Line) *string { return &l.Request.Kind }, check.IsKind),
		textField(func(l *Line) *string { return &l.Request.Partner }, calendar.IsName),
		numberField(func(l *Line) *int { return &l.Request.Period.From }, dayWidth),
		numberField(func(l *Line) *int { return &l.Request.Period.To }, dayWidth),
		codeField(func(l *Line) *int { return &l.Request.Period.Days }, calendar.PrintMask, calendar.ParseMask),
		codeField(func(l *Line) *int { return &l.Request.Minute }, PrintMinute, ParseMinute),
		numberField(func(l *Line) *int { return &l.Request.Seats }, 3),
		numberField(func(l *Line) *int { return &l.Request.Size }, 1),
		numberField(func(l *Line) *int { return &l.Request.Noise }, 2),
		optionalField(func(l *Line) *string { return &l.Request.Terminal }),
		optionalField(func(l *Line) *string { return &l.Request.Link }),
	}
}

// textField is a word that stands in a line as it is.
func textField(at func(*Line) *string, isWord func(string) bool) field {
	return field{
		show: func(l Line) string { return *at(&l) },
		read: func(l *Line, word string) bool {
			*at(l) = word
			return isWord(word)
		},
	}
}

// optionalField is a name, or noName if it is empty.
func optionalField(at func(*Line) *string) field {
	return field{
		show: func(l Line) string {
			if s := *at(&l); s != "" {
				return s
			}
			return noName
		},
		read: func(l *Line, word string) bool {
			if word == noName {
				return true
			}
			*at(l) = word
			return calendar.IsName(word)
		},
	}
}

// numberField is a number with a width.
func numberField(at func(*Line) *int, width int) field {
	return field{
		show: func(l Line) string { return numerals.Padded(*at(&l), width) },
		read: func(l *Line, word string) bool {
			n, ok := numerals.Fixed(word, width)
			*at(l) = n
			return ok
		},
	}
}

// codeField is a number that is printed and parsed as a mask or a minute is.
func codeField(at func(*Line) *int, show func(int) (string, api.Errno), parse func(string) (int, api.Errno)) field {
	return field{
		show: func(l Line) string {
			s, _ := show(*at(&l))
			return s
		},
		read: func(l *Line, word string) bool {
			n, e := parse(word)
			*at(l) = n
			return e == api.OK
		},
	}
}
