package trade_test

import (
	"cmp"
	"slices"

	"turnround/api"
	"turnround/capacity"
	"turnround/message"
	"turnround/trade"
)

// The definitions of the chapter, word by word and without haste.

func isName(s string) bool {
	if len(s) < 1 || len(s) > 24 {
		return false
	}
	for i := range len(s) {
		isLetter := 'a' <= s[i] && s[i] <= 'z' || 'A' <= s[i] && s[i] <= 'Z'
		isOther := '0' <= s[i] && s[i] <= '9' || s[i] == '_'
		if !isLetter && (i == 0 || !isOther) {
			return false
		}
	}
	return true
}

func isDay(day int) bool { return 0 <= day && day <= 99999 }

func hasDay(p api.Period, day int) bool {
	return p.From <= day && day <= p.To && p.Days&(1<<((day+5)%7)) != 0
}

func daysOf(p api.Period) []int {
	var days []int
	for day := p.From; day <= p.To; day++ {
		if hasDay(p, day) {
			days = append(days, day)
		}
	}
	return days
}

func requestError(q api.Request) api.Errno {
	if e := message.CheckRequest(q); e != api.OK {
		return e
	}
	if len(daysOf(q.Period)) == 0 {
		return api.ErrEmpty
	}
	return api.OK
}

func leaseError(l trade.Lease) api.Errno {
	switch {
	case !isName(l.Carrier):
		return api.ErrName
	case !isDay(l.From) || !isDay(l.To):
		return api.ErrRange
	case l.From > l.To:
		return api.ErrOrder
	}
	return api.OK
}

func isOutside(s trade.Slot, l trade.Lease) bool {
	return l.From < s.Request.Period.From || l.To > s.Request.Period.To
}

func slotError(s trade.Slot) api.Errno {
	if e := requestError(s.Request); e != api.OK {
		return e
	}
	if !isName(s.Holder) {
		return api.ErrName
	}
	if len(s.Leases) > 8 {
		return api.ErrMany
	}
	for i, l := range s.Leases {
		switch e := leaseError(l); {
		case e != api.OK:
			return e
		case isOutside(s, l):
			return api.ErrOutside
		case l.Carrier == s.Holder:
			return api.ErrHolder
		case i > 0 && l.From <= s.Leases[i-1].To:
			return api.ErrClash
		}
	}
	if len(s.Shares) > 4 {
		return api.ErrMany
	}
	for i, carrier := range s.Shares {
		switch {
		case !isName(carrier):
			return api.ErrName
		case carrier == s.Holder:
			return api.ErrHolder
		case slices.Contains(s.Shares[:i], carrier):
			return api.ErrTwice
		}
	}
	return api.OK
}

func wishError(w trade.Wish) api.Errno {
	if e := requestError(w.Request); e != api.OK {
		return e
	}
	if w.Rank < 0 || w.Rank > 999999999 {
		return api.ErrRange
	}
	return api.OK
}

func isBefore(a, b trade.Wish) bool {
	return a.Rank < b.Rank || a.Rank == b.Rank && a.Request.Name < b.Request.Name
}

func bookError(b trade.Book) api.Errno {
	if len(b.Slots) > 64 {
		return api.ErrMany
	}
	for i, s := range b.Slots {
		if e := slotError(s); e != api.OK {
			return e
		}
		if indexOf(book(b.Slots[:i]...), s.Request.Name) >= 0 {
			return api.ErrTwice
		}
	}
	if len(b.Waiting) > 64 {
		return api.ErrMany
	}
	for i, w := range b.Waiting {
		if e := wishError(w); e != api.OK {
			return e
		}
		if isTaken(waiting(b, b.Waiting[:i]...), w.Request.Name) {
			return api.ErrTwice
		}
		if i > 0 && !isBefore(b.Waiting[i-1], w) {
			return api.ErrOrder
		}
	}
	return api.OK
}

// indexOf returns the index of the slot with a name, or -1.
func indexOf(b trade.Book, name string) int {
	return slices.IndexFunc(b.Slots, func(s trade.Slot) bool { return s.Request.Name == name })
}

func isTaken(b trade.Book, name string) bool {
	return indexOf(b, name) >= 0 || slices.ContainsFunc(b.Waiting, func(w trade.Wish) bool { return w.Request.Name == name })
}

func copyBook(b trade.Book) trade.Book {
	c := trade.Book{Slots: slices.Clone(b.Slots), Waiting: slices.Clone(b.Waiting)}
	for i, s := range c.Slots {
		c.Slots[i].Leases, c.Slots[i].Shares = slices.Clone(s.Leases), slices.Clone(s.Shares)
	}
	return c
}

func movementsOf(q api.Request) []api.Movement {
	var movements []api.Movement
	for _, day := range daysOf(q.Period) {
		movements = append(movements, api.Movement{Moment: 1440*day + q.Minute, Kind: q.Kind, Terminal: q.Terminal, Seats: q.Seats, Size: q.Size, Noise: q.Noise, Name: q.Name})
	}
	return movements
}

func allMovements(b trade.Book) []api.Movement {
	var movements []api.Movement
	for _, s := range b.Slots {
		movements = append(movements, movementsOf(s.Request)...)
	}
	slices.SortFunc(movements, func(x, y api.Movement) int {
		return cmp.Or(cmp.Compare(x.Moment, y.Moment), cmp.Compare(x.Kind, y.Kind), cmp.Compare(x.Name, y.Name))
	})
	return movements
}

func counts(l capacity.Limit, m api.Movement) bool {
	return (l.Kind == m.Kind || l.Kind == "T") && (l.Terminal == m.Terminal || l.Terminal == "")
}

// countIn returns how many of some movements count in the window of a limit that begins at a moment.
func countIn(l capacity.Limit, begin int, movements []api.Movement) int {
	n := 0
	for _, m := range movements {
		if counts(l, m) && begin <= m.Moment && m.Moment < begin+l.Length {
			n++
		}
	}
	return n
}

func isWindow(l capacity.Limit, begin int) bool {
	minute := begin % 1440
	return begin >= 0 && hasDay(l.Period, begin/1440) && minute%l.Step == 0 && l.From <= minute && minute <= l.To
}

// refusalOf returns the first refusal of a request beside movements, and whether there is one.
func refusalOf(limits []capacity.Limit, movements []api.Movement, q api.Request) (trade.Refusal, bool) {
	for _, m := range movementsOf(q) {
		for i, l := range limits {
			for begin := m.Moment - l.Length + 1; begin <= m.Moment && counts(l, m); begin++ {
				if isWindow(l, begin) && countIn(l, begin, movements) >= l.Most {
					return trade.Refusal{Name: q.Name, Limit: i, Moment: begin}, true
				}
			}
		}
	}
	return trade.Refusal{}, false
}

func fits(limits []capacity.Limit, movements []api.Movement, q api.Request) bool {
	_, isRefused := refusalOf(limits, movements, q)
	return !isRefused
}

func holderOf(b trade.Book, slot string) (string, api.Errno) {
	i := indexOf(b, slot)
	if i < 0 {
		return "", api.ErrUnknown
	}
	return b.Slots[i].Holder, api.OK
}

func operatorOf(b trade.Book, slot string, day int) (string, api.Errno) {
	i := indexOf(b, slot)
	switch {
	case i < 0:
		return "", api.ErrUnknown
	case !isDay(day):
		return "", api.ErrRange
	case !hasDay(b.Slots[i].Request.Period, day):
		return "", api.ErrOutside
	}
	for _, l := range b.Slots[i].Leases {
		if l.From <= day && day <= l.To {
			return l.Carrier, api.OK
		}
	}
	return b.Slots[i].Holder, api.OK
}

// The acts, for books and limits without an error.

func hold(limits []capacity.Limit, b trade.Book, q api.Request) (trade.Book, api.Errno) {
	switch e := requestError(q); {
	case e != api.OK:
		return trade.Book{}, e
	case isTaken(b, q.Name):
		return trade.Book{}, api.ErrTwice
	case len(b.Slots) == 64:
		return trade.Book{}, api.ErrMany
	case !fits(limits, allMovements(b), q):
		return trade.Book{}, api.ErrFull
	}
	c := copyBook(b)
	c.Slots = append(c.Slots, trade.Slot{Request: q, Holder: q.Carrier})
	return c, api.OK
}

func back(b trade.Book, carrier, slot string, day int) (trade.Book, api.Errno) {
	i := indexOf(b, slot)
	switch {
	case !isName(carrier):
		return trade.Book{}, api.ErrName
	case i < 0:
		return trade.Book{}, api.ErrUnknown
	case !isDay(day):
		return trade.Book{}, api.ErrRange
	case b.Slots[i].Holder != carrier:
		return trade.Book{}, api.ErrHolder
	case day > b.Slots[i].Request.Period.To:
		return trade.Book{}, api.ErrOutside
	}
	c := copyBook(b)
	before := daysOf(b.Slots[i].Request.Period)
	if before[0] >= day {
		c.Slots = slices.Delete(c.Slots, i, i+1)
		return c, api.OK
	}
	c.Slots[i].Request.Period.To = day - 1
	c.Slots[i].Leases = nil
	for _, l := range b.Slots[i].Leases {
		if l.From <= day-1 {
			c.Slots[i].Leases = append(c.Slots[i].Leases, lease(l.Carrier, l.From, min(l.To, day-1)))
		}
	}
	return c, api.OK
}

func ring(b trade.Book, slots []string) (trade.Book, api.Errno) {
	if len(slots) < 2 {
		return trade.Book{}, api.ErrShort
	}
	if len(slots) > 8 {
		return trade.Book{}, api.ErrMany
	}
	for i, name := range slots {
		if indexOf(b, name) < 0 {
			return trade.Book{}, api.ErrUnknown
		}
		if slices.Contains(slots[:i], name) {
			return trade.Book{}, api.ErrTwice
		}
	}
	for _, name := range slots {
		if len(b.Slots[indexOf(b, name)].Leases) > 0 {
			return trade.Book{}, api.ErrState
		}
	}
	for i, name := range slots {
		for _, other := range slots[:i] {
			if b.Slots[indexOf(b, name)].Holder == b.Slots[indexOf(b, other)].Holder {
				return trade.Book{}, api.ErrHolder
			}
		}
	}
	c := copyBook(b)
	for i, name := range slots {
		before := slots[len(slots)-1]
		if i > 0 {
			before = slots[i-1]
		}
		c.Slots[indexOf(b, name)].Holder = b.Slots[indexOf(b, before)].Holder
		c.Slots[indexOf(b, name)].Shares = nil
	}
	return c, api.OK
}

func transfer(b trade.Book, carrier, slot, to string) (trade.Book, api.Errno) {
	i := indexOf(b, slot)
	switch {
	case !isName(carrier):
		return trade.Book{}, api.ErrName
	case i < 0:
		return trade.Book{}, api.ErrUnknown
	case !isName(to):
		return trade.Book{}, api.ErrName
	case b.Slots[i].Holder != carrier || b.Slots[i].Holder == to:
		return trade.Book{}, api.ErrHolder
	case len(b.Slots[i].Leases) > 0:
		return trade.Book{}, api.ErrState
	}
	c := copyBook(b)
	c.Slots[i].Holder, c.Slots[i].Shares = to, nil
	return c, api.OK
}

func lend(b trade.Book, carrier, slot string, l trade.Lease) (trade.Book, api.Errno) {
	i := indexOf(b, slot)
	switch e := leaseError(l); {
	case !isName(carrier):
		return trade.Book{}, api.ErrName
	case i < 0:
		return trade.Book{}, api.ErrUnknown
	case e != api.OK:
		return trade.Book{}, e
	case b.Slots[i].Holder != carrier:
		return trade.Book{}, api.ErrHolder
	case isOutside(b.Slots[i], l):
		return trade.Book{}, api.ErrOutside
	case l.Carrier == b.Slots[i].Holder:
		return trade.Book{}, api.ErrHolder
	}
	place := 0
	for _, other := range b.Slots[i].Leases {
		for day := other.From; day <= other.To; day++ {
			if l.From <= day && day <= l.To {
				return trade.Book{}, api.ErrClash
			}
		}
		if other.From < l.From {
			place++
		}
	}
	if len(b.Slots[i].Leases) == 8 {
		return trade.Book{}, api.ErrMany
	}
	c := copyBook(b)
	c.Slots[i].Leases = slices.Insert(c.Slots[i].Leases, place, l)
	return c, api.OK
}

func recall(b trade.Book, carrier, slot string, day int) (trade.Book, api.Errno) {
	i := indexOf(b, slot)
	switch {
	case !isName(carrier):
		return trade.Book{}, api.ErrName
	case i < 0:
		return trade.Book{}, api.ErrUnknown
	case !isDay(day):
		return trade.Book{}, api.ErrRange
	case b.Slots[i].Holder != carrier:
		return trade.Book{}, api.ErrHolder
	}
	for j, l := range b.Slots[i].Leases {
		if l.From <= day && day <= l.To {
			c := copyBook(b)
			c.Slots[i].Leases[j].To = day - 1
			if l.From == day {
				c.Slots[i].Leases = slices.Delete(c.Slots[i].Leases, j, j+1)
			}
			return c, api.OK
		}
	}
	return trade.Book{}, api.ErrNone
}

func share(b trade.Book, carrier, slot, with string) (trade.Book, api.Errno) {
	i := indexOf(b, slot)
	switch {
	case !isName(carrier):
		return trade.Book{}, api.ErrName
	case i < 0:
		return trade.Book{}, api.ErrUnknown
	case !isName(with):
		return trade.Book{}, api.ErrName
	case b.Slots[i].Holder != carrier || b.Slots[i].Holder == with:
		return trade.Book{}, api.ErrHolder
	case slices.Contains(b.Slots[i].Shares, with):
		return trade.Book{}, api.ErrTwice
	case len(b.Slots[i].Shares) == 4:
		return trade.Book{}, api.ErrMany
	}
	c := copyBook(b)
	c.Slots[i].Shares = append(c.Slots[i].Shares, with)
	return c, api.OK
}

func retime(limits []capacity.Limit, b trade.Book, carrier, slot string, minute int) (trade.Book, api.Errno) {
	i := indexOf(b, slot)
	switch {
	case !isName(carrier):
		return trade.Book{}, api.ErrName
	case i < 0:
		return trade.Book{}, api.ErrUnknown
	case minute < 0 || minute > 1439:
		return trade.Book{}, api.ErrRange
	case b.Slots[i].Holder != carrier:
		return trade.Book{}, api.ErrHolder
	}
	c := copyBook(b)
	c.Slots[i].Request.Minute = minute
	others := book(slices.Concat(b.Slots[:i], b.Slots[i+1:])...)
	if !fits(limits, allMovements(others), c.Slots[i].Request) {
		return trade.Book{}, api.ErrFull
	}
	return c, api.OK
}

func wait(b trade.Book, w trade.Wish) (trade.Book, api.Errno) {
	switch e := wishError(w); {
	case e != api.OK:
		return trade.Book{}, e
	case isTaken(b, w.Request.Name):
		return trade.Book{}, api.ErrTwice
	case len(b.Waiting) == 64:
		return trade.Book{}, api.ErrMany
	}
	c := copyBook(b)
	place := 0
	for _, other := range b.Waiting {
		if isBefore(other, w) {
			place++
		}
	}
	c.Waiting = slices.Insert(c.Waiting, place, w)
	return c, api.OK
}

func serve(limits []capacity.Limit, b trade.Book) (trade.Book, []string) {
	c := copyBook(b)
	c.Waiting = nil
	var served []string
	for _, w := range b.Waiting {
		if len(c.Slots) < 64 && fits(limits, allMovements(c), w.Request) {
			c.Slots = append(c.Slots, trade.Slot{Request: w.Request, Holder: w.Request.Carrier})
			served = append(served, w.Request.Name)
		} else {
			c.Waiting = append(c.Waiting, w)
		}
	}
	return c, served
}

func refused(limits []capacity.Limit, b trade.Book) []trade.Refusal {
	var refusals []trade.Refusal
	for _, w := range b.Waiting {
		if x, isRefused := refusalOf(limits, allMovements(b), w.Request); isRefused {
			refusals = append(refusals, x)
		}
	}
	return refusals
}

func apply(limits []capacity.Limit, b trade.Book, e api.Event) (trade.Book, api.Errno) {
	if e.Number < 1 || e.Number > 1000 {
		return trade.Book{}, api.ErrRange
	}
	lengths := [2]int{len(e.Names), len(e.Values)}
	var want [2]int
	switch e.Kind {
	case "hold":
		want = [2]int{5, 7}
	case "wait":
		want = [2]int{5, 8}
	case "back", "recall", "retime":
		want = [2]int{2, 1}
	case "swap":
		want = [2]int{2, 0}
	case "ring":
		want = [2]int{len(e.Names), 0}
	case "transfer", "share":
		want = [2]int{3, 0}
	case "lend":
		want = [2]int{3, 2}
	case "serve":
		want = [2]int{0, 0}
	default:
		return trade.Book{}, api.ErrKind
	}
	if lengths != want {
		return trade.Book{}, api.ErrShape
	}
	if e.Text != "" {
		return trade.Book{}, api.ErrForm
	}
	return done(limits, b, e)
}

// done returns the book after an event that has its form.
func done(limits []capacity.Limit, b trade.Book, e api.Event) (trade.Book, api.Errno) {
	n, v := e.Names, e.Values
	var q api.Request
	if e.Kind == "hold" || e.Kind == "wait" {
		q = api.Request{Name: n[0], Carrier: n[1], Kind: n[2], Terminal: n[3], Partner: n[4], Period: api.Period{From: v[0], To: v[1], Days: v[2]}, Minute: v[3], Seats: v[4], Size: v[5], Noise: v[6]}
	}
	switch e.Kind {
	case "hold":
		return hold(limits, b, q)
	case "wait":
		return wait(b, trade.Wish{Request: q, Rank: v[7]})
	case "back":
		return back(b, n[0], n[1], v[0])
	case "recall":
		return recall(b, n[0], n[1], v[0])
	case "retime":
		return retime(limits, b, n[0], n[1], v[0])
	case "transfer":
		return transfer(b, n[0], n[1], n[2])
	case "share":
		return share(b, n[0], n[1], n[2])
	case "lend":
		return lend(b, n[0], n[1], trade.Lease{Carrier: n[2], From: v[0], To: v[1]})
	case "serve":
		c, _ := serve(limits, b)
		return c, api.OK
	}
	return ring(b, n)
}

func replay(limits []capacity.Limit, events []api.Event) (trade.Book, int, api.Errno) {
	if len(events) > 1000 {
		return trade.Book{}, 0, api.ErrMany
	}
	var b trade.Book
	for i, event := range events {
		if event.Number != i+1 {
			return trade.Book{}, i, api.ErrOrder
		}
		c, e := apply(limits, b, event)
		if e != api.OK {
			return trade.Book{}, i, e
		}
		b = c
	}
	return b, 0, api.OK
}
