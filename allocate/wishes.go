package allocate

import (
	"turnround/api"
	"turnround/capacity"
	"turnround/check"
	"turnround/lists"
)

// none stands for a wish, or a minute, that does not exist.
const none = -1

// CheckWishes returns the first error of wishes, or OK.
func CheckWishes(l []Wish) api.Errno {
	if e := check.Named(l, api.MaxRequests, nameOf, checkWish); e != api.OK {
		return e
	}
	places := placesOf(l)
	for _, w := range l {
		if w.Request.Link == "" {
			continue
		}
		place, found := places[w.Request.Link]
		if !found {
			return api.ErrUnknown
		}
		if !arePair(w.Request, l[place].Request) {
			return api.ErrPair
		}
	}
	return api.OK
}

// Candidates returns the candidates of a wish, in the order of preference.
func Candidates(w Wish) ([]int, api.Errno) {
	if e := checkWish(w); e != api.OK {
		return nil, e
	}
	return candidates(w), api.OK
}

// Movements returns the movements of a wish at a minute.
func Movements(w Wish, minute int) ([]api.Movement, api.Errno) {
	if e := checkWish(w); e != api.OK {
		return nil, e
	}
	if !isCandidate(w, minute) {
		return nil, api.ErrOutside
	}
	return movementsAt(w, minute), api.OK
}

// Linked returns for each wish the index of the linked one, or -1.
func Linked(l []Wish) ([]int, api.Errno) {
	if e := CheckWishes(l); e != api.OK {
		return nil, e
	}
	return partnersOf(l), api.OK
}

func nameOf(w Wish) string { return w.Request.Name }

func checkWish(w Wish) api.Errno {
	q := w.Request
	_, e := capacity.Movements(q)
	e = check.First(
		e,
		check.Name(q.Carrier),
		check.OptionalName(q.Partner),
		check.OptionalName(q.Link),
		check.Minute(w.Earliest),
		check.Minute(w.Latest),
		check.Unless(w.Earliest <= q.Minute && q.Minute <= w.Latest, api.ErrOrder),
		check.Range(w.Step, 1, MaxStep),
	)
	if e != api.OK {
		return e
	}
	earlier, later := timesOf(w)
	return check.First(
		check.Unless(earlier+1+later <= MaxTimes, api.ErrLimit),
		check.Range(w.Least, 0, MaxGround),
		check.Range(w.Most, 0, MaxGround),
		check.Unless(w.Least <= w.Most, api.ErrOrder),
	)
}

// placesOf returns the indices of wishes by their names.
func placesOf(l []Wish) map[string]int {
	places := map[string]int{}
	for i, w := range l {
		places[nameOf(w)] = i
	}
	return places
}

// partnersOf returns for each wish the index of the linked one, or none.
func partnersOf(l []Wish) []int {
	places := placesOf(l)
	return lists.Transform(l, func(w Wish) int {
		if place, isLinked := places[w.Request.Link]; isLinked {
			return place
		}
		return none
	})
}

// arePair reports whether a request, and the one that it names as its link, are linked.
func arePair(q, other api.Request) bool {
	return other.Link == q.Name && other.Kind != q.Kind && other.Period == q.Period
}

// timesOf returns how many candidates are before, and how many are behind, the minute of the request.
func timesOf(w Wish) (earlier, later int) {
	return (w.Request.Minute - w.Earliest) / w.Step, (w.Latest - w.Request.Minute) / w.Step
}

func candidates(w Wish) []int {
	minute := w.Request.Minute
	earlier, later := timesOf(w)
	minutes := []int{minute}
	for n := range max(earlier, later) {
		by := (n + 1) * w.Step
		if n < earlier {
			minutes = append(minutes, minute-by)
		}
		if n < later {
			minutes = append(minutes, minute+by)
		}
	}
	return minutes
}

func isCandidate(w Wish, minute int) bool {
	return w.Earliest <= minute && minute <= w.Latest && isStep(w, minute)
}

// isStep reports whether the difference of a minute of the day from that of the request is a multiple of the step.
func isStep(w Wish, minute int) bool { return (minute-w.Request.Minute)%w.Step == 0 }

// distance returns the absolute difference of a minute from that of the request.
func distance(w Wish, minute int) int {
	return max(minute-w.Request.Minute, w.Request.Minute-minute)
}

func movementsAt(w Wish, minute int) []api.Movement {
	q := w.Request
	q.Minute = minute
	movements, _ := capacity.Movements(q)
	return movements
}
