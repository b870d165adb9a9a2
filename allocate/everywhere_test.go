package allocate_test

import (
	"fmt"
	"math"
	"slices"
	"strings"
	"testing"

	"turnround/allocate"
	"turnround/api"
	"turnround/capacity"
)

var (
	oddNumbers = []int{math.MinInt, math.MinInt + 1, -1440, -1, 0, 1, 2, 63, 64, 96, 97, 120, 121, 400, 610, 1439, 1440, 1441, 3480, 99999, 100000, 143999999, 144000000, 999999999, 1000000000, math.MaxInt - 1, math.MaxInt}
	oddTexts   = []string{"", " ", "\n", "A", "D", "T", "a", "p", "q", "hour", "-", "\x00", "\xff\xfe", "\xe2\x82", "äö", strings.Repeat("a", 25), strings.Repeat("9", 20000)}
)

// oddWishes has wishes with odd numbers and texts.
func oddWishes() []allocate.Wish {
	all := []allocate.Wish{{}, wish("a", link("b"))}
	for _, x := range badWishes() {
		all = append(all, x.value)
	}
	for i, n := range oddNumbers {
		s := oddTexts[i%len(oddTexts)]
		m := oddNumbers[len(oddNumbers)-1-i]
		q := api.Request{Name: s, Carrier: s, Kind: s, Terminal: s, Partner: s, Link: s, Period: api.Period{From: n, To: m, Days: n}, Minute: n, Seats: m, Size: n, Noise: m}
		all = append(all,
			allocate.Wish{Request: q, Earliest: n, Latest: m, Step: n, Least: n, Most: m},
			wish("x", at(n, n, n)), wish("x", at(n, m, n), step(m)), wish("x", at(610, n, m), step(1)), wish("x", step(n)), wish("x", ground(n, m)),
			wish("x", on(n, m, 127)), wish("x", on(n, n, n)),
		)
	}
	return all
}

// oddResults has results with odd numbers and texts.
func oddResults() []allocate.Result {
	all := []allocate.Result{{}, granted("a", 610)}
	for i, n := range oddNumbers {
		s := oddTexts[i%len(oddTexts)]
		all = append(all, granted(s, n), granted("a", n), allocate.Result{Name: "a", Minute: n}, allocate.Result{Name: s, Minute: n})
	}
	return all
}

// oddReasons has reasons with odd numbers and texts.
func oddReasons() []allocate.Reason {
	all := []allocate.Reason{{}, {Holders: oddTexts}}
	for i, n := range oddNumbers {
		s := oddTexts[i%len(oddTexts)]
		m := oddNumbers[len(oddNumbers)-1-i]
		all = append(all,
			allocate.Reason{Name: s, Minute: n, Other: m, Limit: n, Window: m, Holders: oddTexts[:i%len(oddTexts)]},
			allocate.Reason{Name: "b", Minute: 610, Other: -1, Limit: n, Window: m},
			allocate.Reason{Name: "b", Minute: 610, Other: -1, Limit: 0, Window: n},
			allocate.Reason{Name: "b", Minute: n, Other: m, Limit: 0, Window: 3480},
		)
	}
	return all
}

// oddLimits has lists of limits with odd numbers and texts.
func oddLimits() [][]capacity.Limit {
	all := [][]capacity.Limit{nil, list(hour()), list(hour(atMost(0)))}
	for _, x := range badLimits() {
		all = append(all, x.value)
	}
	for i, n := range oddNumbers {
		s := oddTexts[i%len(oddTexts)]
		all = append(all,
			list(capacity.Limit{Name: s, Kind: s, Terminal: s, Length: n, Step: n, From: n, To: n, Period: api.Period{From: n, To: n, Days: n}, Most: n}),
			list(hour(lasting(n), every(n, 0, 1439))), list(hour(every(7, n, n))), list(hour(onDays(n, n, 127))), list(hour(atMost(n))),
		)
	}
	return all
}

// isOdd calls all functions with lists of wishes, and checks that what stands beside an error is zero.
func isOdd(t *testing.T, x everything) {
	t.Helper()
	zero := func(what string, e api.Errno, isZero bool) {
		t.Helper()
		is(t, what+" beside an error is zero", e == api.OK || isZero, true)
	}
	allocate.CheckWishes(x.l)
	linked, e := allocate.Linked(x.l)
	zero("Linked", e, len(linked) == 0)
	r, e := allocate.Serve(x.limits, x.l)
	zero("Serve", e, len(r) == 0)
	allocate.CheckAllocation(x.limits, x.l, x.r)
	movements, e := allocate.Placed(x.l, x.r)
	zero("Placed", e, len(movements) == 0)
	reasons, e := allocate.Reasons(x.limits, x.l, x.r)
	zero("Reasons", e, len(reasons) == 0)
	allocate.CheckReasons(x.limits, x.l, x.r, x.reasons)
	c, e := allocate.Envy(x.limits, x.l, x.r)
	zero("Envy", e, c.Index == 0 && c.Minute == 0 && c.Other == 0 && len(c.Blockers) == 0)
	c, e = allocate.Waste(x.limits, x.l, x.r)
	zero("Waste", e, c.Index == 0 && c.Minute == 0 && c.Other == 0)
	is(t, "blockers of waste", len(c.Blockers), 0)
	n, e := allocate.Displacement(x.l, x.r)
	zero("Displacement", e, n == 0)
	totals, e := allocate.Totals(x.l, x.r)
	zero("Totals", e, len(totals) == 0)
	r, e = allocate.Revise(x.limits, x.l, x.r, x.w)
	zero("Revise", e, len(r) == 0)
	r, e = allocate.Withdraw(x.limits, x.l, x.r)
	zero("Withdraw", e, len(r) == 0)
	offers, e := allocate.Offers(x.limits, x.l, x.r, x.index)
	zero("Offers", e, len(offers) == 0)
}

// P1: no wishes make a function panic.
func TestOddWishes(t *testing.T) {
	for i, w := range oddWishes() {
		n := oddNumbers[i%len(oddNumbers)]
		m, e := allocate.Candidates(w)
		is(t, "Candidates beside an error", e == api.OK || len(m) == 0, true)
		for _, n := range oddNumbers {
			movements, e := allocate.Movements(w, n)
			is(t, "Movements beside an error", e == api.OK || len(movements) == 0, true)
		}
		for _, l := range [][]allocate.Wish{{w}, {w, w}, append(pair(), w), append(list(w), pair()...)} {
			isOdd(t, everything{list(hour()), l, refusals(l), nil, w, n})
			minutes := slices.Repeat(list(w.Request.Minute), len(l))
			isOdd(t, everything{list(hour()), l, results(l, minutes...), oddReasons()[:1], w, n})
		}
		isOdd(t, everything{nil, three(), results(three(), 610, 590, 670), nil, w, n})
	}
}

// P1: no limits, results, reasons and indices make a function panic.
func TestOddArguments(t *testing.T) {
	r := results(three(), 610, 590, 670)
	for i, limits := range oddLimits() {
		n := oddNumbers[i%len(oddNumbers)]
		for _, l := range [][]allocate.Wish{three(), pair(), nil} {
			isOdd(t, everything{limits, l, refusals(l), oddReasons()[:1], wish("d"), n})
		}
		isOdd(t, everything{limits, three(), r, exampleReasons(), wish("d"), n})
	}
	for i, result := range oddResults() {
		n := oddNumbers[i%len(oddNumbers)]
		isOdd(t, everything{list(hour()), three()[:1], list(result), nil, wish("d"), n})
		for at := range r {
			changed := slices.Clone(r)
			changed[at] = result
			isOdd(t, everything{nil, three(), changed, nil, wish("d"), n})
		}
		isOdd(t, everything{nil, pair(), list(result, granted("q", 650)), nil, wish("d"), n})
	}
	for _, reason := range oddReasons() {
		is(t, fmt.Sprint("CheckReasons ", reason), allocate.CheckReasons(list(hour()), three(), r, append(list(reason), exampleReasons()[1:]...)), api.ErrProof)
	}
}

// P1: no lists of any length make a function panic.
func TestOddLists(t *testing.T) {
	for _, n := range []int{0, 1, 2, 32, 33, 63, 64, 65, 1000, 100000} {
		// want is the error of n empty elements, of which there may be only so many.
		want := func(most int) api.Errno {
			switch {
			case n == 0:
				return api.OK
			case n > most:
				return api.ErrMany
			}
			return api.ErrName
		}
		l := make([]allocate.Wish, n)
		for _, f := range functions {
			x := everything{l: l, w: wish("d"), index: -1}
			if n > 0 || f.name != "Envy" && f.name != "Waste" && f.name != "Offers" {
				is(t, f.name+" with empty wishes", f.call(x), want(64))
			}
			if f.limits && n > 0 {
				is(t, f.name+" with empty limits", f.call(everything{limits: make([]capacity.Limit, n), l: l}), want(32))
			}
			if f.results && n != 3 {
				is(t, f.name+" with empty results", f.call(everything{l: three(), r: make([]allocate.Result, n)}), api.ErrShape)
			}
		}
		r := results(three(), 610, 590, 670)
		is(t, "CheckReasons with empty reasons", allocate.CheckReasons(list(hour()), three(), r, make([]allocate.Reason, n)), api.ErrProof)
		reasons := exampleReasons()
		reasons[2].Holders = make([]string, n)
		is(t, "CheckReasons with empty holders", allocate.CheckReasons(list(hour()), three(), r, reasons), api.ErrProof)
	}
}

// P1: the largest inputs are examined to their end.
func TestLargestInputs(t *testing.T) {
	long := on(99599, 99999, 127)
	var limits []capacity.Limit
	for i := range 32 {
		limits = append(limits, hour(named(fmt.Sprint("l", i)), every(60, 0, 1439), onDays(99599, 99999, 127), atMost(999999999-i)))
	}
	limits[31] = hour(named("last"), every(1, 0, 1439), lasting(1440), onDays(99599, 99999, 127), atMost(62))
	var l []allocate.Wish
	for i := range 64 {
		l = append(l, wish(fmt.Sprintf("%s%02d", strings.Repeat("x", 22), i), long, step(1), at(1391, 1344, 1439), ground(0, 1440)))
	}
	r := ok[[]allocate.Result](t)(allocate.Serve(limits, l))
	is(t, "the 62nd wish", r[61].Granted, true)
	is(t, "the 63rd wish", r[62].Granted, false)
	is(t, "the 64th wish", r[63].Granted, false)
	reasons := ok[[]allocate.Reason](t)(allocate.Reasons(limits, l, r))
	is(t, "reasons", len(reasons), 2*96)
	is(t, "holders", len(reasons[0].Holders), 62)
	is(t, "CheckReasons", allocate.CheckReasons(limits, l, r, reasons), api.OK)
	is(t, "displacement", ok[int](t)(allocate.Displacement(l, r)), 0)
	is(t, "movements", len(ok[[]api.Movement](t)(allocate.Placed(l, r))), 62*401)
	is(t, "offers", len(ok[[]int](t)(allocate.Offers(limits, l, r, 0))), 1440)

	for i := range l {
		l[i].Request.Link = l[i^1].Request.Name
		l[i].Request.Kind = [2]string{"A", "D"}[i%2]
	}
	r = ok[[]allocate.Result](t)(allocate.Serve(limits, l))
	isList(t, "linked wishes", r[60:], results(l[60:], 1391, 1391, -1, -1))
	reasons = ok[[]allocate.Reason](t)(allocate.Reasons(limits, l, r))
	is(t, "reasons of linked wishes", len(reasons), 96*97/2)
	is(t, "CheckReasons of linked wishes", allocate.CheckReasons(limits, l, r, reasons), api.OK)
}

// largeArguments are arguments of all functions from a large scene.
func (x *noise) largeArguments() everything {
	s := x.largeScene(30)
	r := make([]allocate.Result, len(s.wishes))
	return everything{limits: s.limits, l: s.wishes, r: r, reasons: oddReasons(), w: wish("z")}
}

// Rules: arguments are not modified, nor is what stands behind a list.
func TestArgumentsStay(t *testing.T) {
	x := noise(62)
	for range 2 {
		args := x.largeArguments()
		served := ok[[]allocate.Result](t)(allocate.Serve(args.limits, args.l))
		copy(args.r, served)
		limits, l, r := slices.Clone(args.limits), slices.Clone(args.l), slices.Clone(args.r)
		reasons := ok[[]allocate.Reason](t)(allocate.Reasons(args.limits, args.l, args.r))
		args.reasons = slices.Clone(reasons)
		for i := range args.reasons {
			args.reasons[i].Holders = slices.Clone(reasons[i].Holders)
		}
		// The linked wishes of large scenes are at the indices 0 and 7, so eight of them are a list, too.
		for _, n := range []int{len(l), 8, 0} {
			part := args
			part.l, part.r = args.l[:n], args.r[:n]
			for _, f := range functions {
				f.call(part)
				part.r = slices.Clone(part.r)
				for i := range part.r {
					part.r[i] = refused(part.r[i].Name)
				}
				f.call(part)
				part.r = args.r[:n]
			}
		}
		isList(t, "limits", args.limits, limits)
		isList(t, "wishes", args.l, l)
		isList(t, "results", args.r, r)
		isReasons(t, "reasons", args.reasons, reasons)
	}
}

// isFresh checks that a result does not change with another one of the same call.
func isFresh[T comparable](t *testing.T, what string, call func() ([]T, api.Errno)) {
	t.Helper()
	a, _ := call()
	b, _ := call()
	before := slices.Clone(b)
	is(t, what+" has elements", len(a) > 0, true)
	var zero T
	for i := range a {
		a[i] = zero
	}
	_ = append(a, zero)
	isList(t, what+" after another result was changed", b, before)
	again, _ := call()
	isList(t, what+" called again", again, before)
}

// Rules: results share no memory with arguments, or with each other.
func TestResultsShareNothing(t *testing.T) {
	limits, l := list(hour()), three()
	r := results(l, 610, 590, 670)
	isFresh(t, "Candidates", func() ([]int, api.Errno) { return allocate.Candidates(l[0]) })
	isFresh(t, "Movements", func() ([]api.Movement, api.Errno) { return allocate.Movements(l[0], 610) })
	isFresh(t, "Linked", func() ([]int, api.Errno) { return allocate.Linked(l) })
	isFresh(t, "Serve", func() ([]allocate.Result, api.Errno) { return allocate.Serve(limits, l) })
	isFresh(t, "Placed", func() ([]api.Movement, api.Errno) { return allocate.Placed(l, r) })
	isFresh(t, "Totals", func() ([]allocate.Total, api.Errno) { return allocate.Totals(l, r) })
	isFresh(t, "Revise", func() ([]allocate.Result, api.Errno) { return allocate.Revise(limits, l, r[:3:3], wish("d")) })
	isFresh(t, "Revise before other results", func() ([]allocate.Result, api.Errno) { return allocate.Revise(limits, l[:2], r[:2], wish("d")) })
	isFresh(t, "Withdraw", func() ([]allocate.Result, api.Errno) { return allocate.Withdraw(limits, l, r) })
	isFresh(t, "Offers", func() ([]int, api.Errno) { return allocate.Offers(limits, l, r, 0) })
	isList(t, "results", r, results(l, 610, 590, 670))
	isFresh(t, "Blockers", func() ([]string, api.Errno) {
		c, e := allocate.Envy(limits, l, results(l, -1, 610, 670))
		return c.Blockers, e
	})
	reasons := ok[[]allocate.Reason](t)(allocate.Reasons(limits, l, r))
	for i := range reasons {
		clear(reasons[i].Holders)
		_ = append(reasons[i].Holders, "z")
		reasons[i] = exampleReasons()[i]
		isReasons(t, "the other reasons", reasons, exampleReasons())
	}
}
