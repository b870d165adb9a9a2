package office

import (
	"iter"

	"turnround/api"
	"turnround/check"
)

// The kinds of events, of which the first three are those of entries, too.
const (
	enter    = "enter"
	rule     = "rule"
	follow   = "follow"
	reverse  = "reverse"
	complain = "complain"
	decide   = "decide"
)

// shape is how many names and values an event has, or a line of the console.
type shape struct {
	names  int
	values int
}

// eventKind is the shape of the events of a kind, and what they do: the register after such an event, or the error with which it is not accepted.
type eventKind struct {
	shape
	do func(Register, api.Event) (Register, api.Errno)
}

// CheckEvent returns the first error of an event by itself, or OK.
func CheckEvent(e api.Event) api.Errno {
	k, isKind := kinds()[e.Kind]
	return check.First(
		check.Range(e.Number, 1, api.MaxEvents),
		check.Unless(isKind, api.ErrKind),
		check.Unless(len(e.Names) == k.names && len(e.Values) == k.values, api.ErrShape),
		check.List(e.Names, k.names, check.Name),
		check.List(e.Values, k.values, func(n int) api.Errno { return check.Range(n, 0, api.MaxNumber) }),
		check.Unless(e.Text == "", api.ErrForm),
	)
}

// Replay returns the register after some events, or the number of the first one with an error.
func Replay(l []api.Event) (Register, int, api.Errno) {
	if len(l) > api.MaxEvents {
		return Register{}, 0, api.ErrMany
	}
	var r Register
	for number, e := range numbered(l) {
		after, err := r.after(number, e)
		if err != api.OK {
			return Register{}, number, err
		}
		r = after
	}
	return r, 0, api.OK
}

// Accepts returns the error with which an event is not accepted after others, or OK.
func Accepts(l []api.Event, e api.Event) api.Errno {
	r, _, err := Replay(l)
	_, refused := r.after(len(l)+1, e)
	return check.First(err, CheckEvent(e), check.Unless(len(l) < api.MaxEvents, api.ErrMany), refused)
}

// kinds returns the kinds of events by their words.
func kinds() map[string]eventKind {
	return map[string]eventKind{
		enter:    {shape{2, 4}, Register.add},
		rule:     {shape{2, 4}, Register.add},
		follow:   {shape{3, 4}, Register.add},
		reverse:  {shape{1, 1}, Register.reverse},
		complain: {shape{2, 1}, Register.complain},
		decide:   {shape{1, 2}, Register.decide},
	}
}

// numbered visits events with the numbers that they have to have.
func numbered(l []api.Event) iter.Seq2[int, api.Event] {
	return func(yield func(int, api.Event) bool) {
		for i, e := range l {
			if !yield(i+1, e) {
				return
			}
		}
	}
}
