package office

import (
	"iter"
	"strings"

	"turnround/api"
	"turnround/check"
	"turnround/numerals"
)

const (
	// sumMark stands before a checksum.
	sumMark    = "#"
	sumWidth   = 7
	sumFactor  = 281
	sumModulus = 9999943

	lineEnd = "\n"
)

// record is an event of a log, and where its record ends.
type record struct {
	event api.Event
	end   int
}

// Append returns a log with one more record.
func Append(log string, e api.Event) (string, api.Errno) {
	events, _, err := Recover(log)
	longer := log + recordOf(e)
	err = check.First(
		err,
		CheckEvent(e),
		check.Unless(e.Number == len(events)+1, api.ErrOrder),
		check.Unless(len(longer) <= api.MaxLog, api.ErrLong),
	)
	if err != api.OK {
		return "", err
	}
	return longer, api.OK
}

// Recover returns the events of the longest prefix that is a log, its length, and the error of the rest.
func Recover(log string) ([]api.Event, int, api.Errno) {
	if len(log) > api.MaxLog {
		return nil, 0, api.ErrLong
	}
	var events []api.Event
	length := 0
	for r, e := range recordsOf(log) {
		if e != api.OK {
			return events, length, e
		}
		events = append(events, r.event)
		length = r.end
	}
	return events, length, api.OK
}

// recordsOf visits the records of a log, up to the first one with an error.
func recordsOf(log string) iter.Seq2[record, api.Errno] {
	return func(yield func(record, api.Errno) bool) {
		end := 0
		for number := 1; end < len(log); number++ {
			event, length, e := readRecord(log[end:], number)
			end += length
			if !yield(record{event: event, end: end}, e) || e != api.OK {
				return
			}
		}
	}
}

// recordOf returns the record of an event.
func recordOf(e api.Event) string {
	body := bodyOf(e)
	return body + sumMark + checksum(body) + lineEnd
}

// readRecord returns the event of the record with which a text begins, and the length of the record; the event has to have a number.
func readRecord(text string, number int) (api.Event, int, api.Errno) {
	line, _, isWhole := strings.Cut(text, lineEnd)
	if !isWhole {
		return api.Event{}, 0, api.ErrTorn
	}
	body, sum, hasSum := cutSum(line)
	event, isBody := readBody(body)
	e := check.First(
		check.Unless(hasSum, api.ErrSyntax),
		check.Unless(sum == checksum(body), api.ErrCheck),
		check.Unless(isBody, api.ErrSyntax),
		check.Unless(event.Number == number, api.ErrOrder),
	)
	return event, len(line) + len(lineEnd), e
}

// cutSum returns what stands before and behind the mark of a checksum, and whether a line ends with one.
func cutSum(line string) (string, string, bool) {
	at := len(line) - sumWidth
	if at < 0 {
		return "", "", false
	}
	body, isMarked := strings.CutSuffix(line[:at], sumMark)
	_, isNumber := numerals.Fixed(line[at:], sumWidth)
	return body, line[at:], isMarked && isNumber
}

// checksum returns the checksum of a string.
func checksum(s string) string {
	x := 1
	for _, b := range []byte(s) {
		x = (sumFactor*x + int(b)) % sumModulus
	}
	return numerals.Padded(x, sumWidth)
}
