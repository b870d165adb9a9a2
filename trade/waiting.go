package trade

import (
	"slices"
	"sort"

	"turnround/api"
	"turnround/capacity"
	"turnround/check"
)

const minutesOfDay = 1440

// Wait returns the book with a wish more.
func Wait(b Book, w Wish) (Book, api.Errno) {
	return act(nil, b, func(d desk) (Book, api.Errno) { return d.wait(w) })
}

// Serve returns the book in which all wishes that fit are slots, and their names.
func Serve(limits []capacity.Limit, b Book) (Book, []string, api.Errno) {
	if e := checkDesk(limits, b); e != api.OK {
		return Book{}, nil, e
	}
	book, served := desk{limits: limits, book: b}.serve()
	return book, served, api.OK
}

// Refused returns for each wish that does not fit the first window that refuses it.
func Refused(limits []capacity.Limit, b Book) ([]Refusal, api.Errno) {
	if e := checkDesk(limits, b); e != api.OK {
		return nil, e
	}
	return desk{limits: limits, book: b}.refusals(), api.OK
}

func (d desk) wait(w Wish) (Book, api.Errno) {
	e := check.First(
		checkWish(w),
		check.Unless(!d.isTaken(w.Request.Name), api.ErrTwice),
		check.Unless(len(d.book.Waiting) < MaxWaiting, api.ErrMany),
	)
	if e != api.OK {
		return Book{}, e
	}
	longer := copyOf(d.book)
	longer.Waiting = append(longer.Waiting, w)
	slices.SortFunc(longer.Waiting, Wish.compare)
	return longer, api.OK
}

// serve returns the book in which all wishes that fit are slots, and their names.
func (d desk) serve() (Book, []string) {
	book := copyOf(Book{Slots: d.book.Slots})
	movements := movementsBut(d.book, nobody)
	var served []string
	for _, w := range d.book.Waiting {
		if len(book.Slots) == MaxSlots || !d.fits(w.Request, movements) {
			book.Waiting = append(book.Waiting, w)
			continue
		}
		book.Slots = append(book.Slots, newSlot(w.Request))
		own, _ := capacity.Movements(w.Request)
		movements, _ = capacity.Merge(movements, own)
		served = append(served, w.Request.Name)
	}
	return book, served
}

// refusals returns the refusals of all wishes that do not fit.
func (d desk) refusals() []Refusal {
	movements := movementsBut(d.book, nobody)
	var refusals []Refusal
	for _, w := range d.book.Waiting {
		if full := d.firstFull(w.Request, movements); len(full) > 0 {
			refusals = append(refusals, Refusal{Name: w.Request.Name, Limit: full[0].Limit, Moment: full[0].Begin})
		}
	}
	return refusals
}

// firstFull returns the full windows of the first movement of a request that does not fit beside movements, or none if the request fits.
func (d desk) firstFull(q api.Request, movements []api.Movement) []capacity.Window {
	own, _ := capacity.Movements(q)
	// If the movements up to a day do not all fit, those up to a later day do not, either.
	at := sort.Search(len(own), func(i int) bool {
		q.Period.To = own[i].Moment / minutesOfDay
		return !d.fits(q, movements)
	})
	if at == len(own) {
		return nil
	}
	full, _ := capacity.Full(d.limits, movements, own[at])
	return full
}
