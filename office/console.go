package office

import (
	"slices"
	"strconv"
	"strings"

	"turnround/api"
	"turnround/check"
	"turnround/lists"
)

// noWords stands for a result without words.
const noWords = "none"

// history is events that were accepted, one after the other, and the register after them.
type history struct {
	events   []api.Event
	register Register
}

// Session is a console.
type Session struct{ history }

// question is the shape of a line that asks something, and the words of the answer.
type question struct {
	shape
	answer func(Register, api.Event) ([]string, api.Errno)
}

// New returns a session without events.
func New() *Session { return &Session{} }

// Open returns the session with a log.
func Open(log string) (*Session, api.Errno) {
	events, _, rest := Recover(log)
	if rest == api.ErrTorn {
		rest = api.OK
	}
	r, _, refused := Replay(events)
	if e := check.First(rest, refused); e != api.OK {
		return nil, e
	}
	return &Session{history{events: events, register: r}}, api.OK
}

// Do executes a line, and returns its result.
func (s *Session) Do(line string) (string, api.Errno) {
	if s == nil {
		return "", api.ErrState
	}
	e := check.First(
		check.Unless(len(line) <= api.MaxText, api.ErrLong),
		check.Unless(line != "", api.ErrSyntax),
	)
	if e != api.OK {
		return "", e
	}
	r := readerOf(line)
	first := r.word()
	if k, isKind := kinds()[first]; isKind {
		event := r.event(len(s.events)+1, first, k.shape)
		return s.accept(event, r.isDone())
	}
	if q, isQuestion := questions()[first]; isQuestion {
		asked := r.event(0, first, q.shape)
		return s.say(q, asked, r.isDone())
	}
	return "", api.ErrKind
}

// Events returns the events.
func (s *Session) Events() []api.Event {
	if s == nil {
		return nil
	}
	return lists.Transform(s.events, copyOf)
}

// Log returns the log of the events.
func (s *Session) Log() string {
	if s == nil {
		return ""
	}
	return strings.Join(lists.Transform(s.events, recordOf), "")
}

// accept adds the event of a line, unless the line does not have the form of one or the event is not accepted.
func (s *Session) accept(e api.Event, hasForm bool) (string, api.Errno) {
	after, refused := s.register.after(len(s.events)+1, e)
	err := check.First(
		check.Unless(hasForm, api.ErrSyntax),
		check.Unless(len(s.events) < api.MaxEvents, api.ErrMany),
		refused,
	)
	if err != api.OK {
		return "", err
	}
	s.history = history{events: with(s.events, e), register: after}
	return "done " + strconv.Itoa(e.Number), api.OK
}

// say answers the question of a line, unless the line does not have the form of one.
func (s *Session) say(q question, asked api.Event, hasForm bool) (string, api.Errno) {
	if !hasForm {
		return "", api.ErrSyntax
	}
	words, e := q.answer(s.register, asked)
	switch {
	case e != api.OK:
		return "", e
	case len(words) == 0:
		return noWords, api.OK
	}
	return strings.Join(words, blank), api.OK
}

// questions returns the questions by their words.
func questions() map[string]question {
	return map[string]question{
		"slot":   {shape{1, 2}, Register.saySlot},
		"day":    {shape{0, 2}, Register.sayDay},
		"counts": {shape{0, 1}, func(r Register, asked api.Event) ([]string, api.Errno) { return r.counting(asked.Values[0]) }},
		"rests":  {shape{1, 0}, func(r Register, asked api.Event) ([]string, api.Errno) { return r.resting(asked.Names[0]) }},
		"open":   {shape{0, 0}, Register.sayOpen},
	}
}

func (r Register) saySlot(asked api.Event) ([]string, api.Errno) {
	minute, e := r.minute(asked.Names[0], asked.Values[0], asked.Values[1])
	if minute == noSlot {
		return nil, e
	}
	return []string{strconv.Itoa(minute)}, e
}

func (r Register) sayDay(asked api.Event) ([]string, api.Errno) {
	slots, e := r.slots(asked.Values[0], asked.Values[1])
	words := lists.Transform(slots, func(s Slot) []string { return []string{s.Series, strconv.Itoa(s.Minute)} })
	return slices.Concat(words...), e
}

func (r Register) sayOpen(api.Event) ([]string, api.Errno) {
	open := lists.Filter(r.Complaints, func(c Complaint) bool { return !c.Closed })
	return lists.Transform(open, complaintName), api.OK
}

// copyOf returns an event that shares no memory with another one.
func copyOf(e api.Event) api.Event {
	e.Names, e.Values = slices.Clone(e.Names), slices.Clone(e.Values)
	return e
}
