package office

import (
	"slices"
	"strconv"
	"strings"

	"turnround/api"
	"turnround/lists"
	"turnround/numerals"
)

const blank = " "

// reader takes the words of a text one by one, and knows whether one of them was wrong.
type reader struct {
	words   []string
	isWrong bool
}

// readerOf returns a reader of the words between the blanks of a text.
func readerOf(text string) *reader { return &reader{words: strings.Split(text, blank)} }

// word takes a word, which has to have a byte.
func (r *reader) word() string {
	if len(r.words) == 0 {
		r.isWrong = true
		return ""
	}
	word := r.words[0]
	r.words = r.words[1:]
	r.isWrong = r.isWrong || word == ""
	return word
}

// number takes a word that has to be a number.
func (r *reader) number() int {
	n, isNumber := numerals.Plain(r.word())
	r.isWrong = r.isWrong || !isNumber
	return n
}

// event takes the names and the values behind the first word of an event, or of a question.
func (r *reader) event(number int, first string, s shape) api.Event {
	names := take(s.names, r.word)
	values := take(s.values, r.number)
	return api.Event{Number: number, Kind: first, Names: names, Values: values}
}

// isDone reports whether all words were taken, and none of them was wrong.
func (r *reader) isDone() bool { return len(r.words) == 0 && !r.isWrong }

// take takes so many words.
func take[T any](n int, next func() T) []T {
	var taken []T
	for range n {
		taken = append(taken, next())
	}
	return taken
}

// bodyOf returns the body of an event.
func bodyOf(e api.Event) string {
	first := []string{strconv.Itoa(e.Number), e.Kind}
	return strings.Join(slices.Concat(first, e.Names, lists.Transform(e.Values, strconv.Itoa)), blank)
}

// readBody returns the event of a body, and whether the text is the body of an event without an error.
func readBody(text string) (api.Event, bool) {
	r := readerOf(text)
	number := r.number()
	first := r.word()
	e := r.event(number, first, kinds()[first].shape)
	return e, r.isDone() && CheckEvent(e) == api.OK
}
