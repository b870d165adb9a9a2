package priority

import (
	"turnround/api"
	"turnround/calendar"
	"turnround/check"
	"turnround/message"
)

// fact is a fact of claims: its place in the order of all facts, and what it is of a claim without error.
type fact struct {
	place int
	of    func(c Claim) int
}

// CheckClaim returns the first error of a claim, or OK.
func CheckClaim(c Claim) api.Errno {
	return check.First(message.CheckRequest(c.Request), check.Range(c.Distance, 0, MaxDistance))
}

// Facts returns the names of all facts.
func Facts() []string {
	all := facts()
	names := make([]string, len(all))
	for name, f := range all {
		names[f.place] = name
	}
	return names
}

// Fact returns the value of a fact of a claim.
func Fact(c Claim, name string) (int, api.Errno) {
	if e := check.First(CheckClaim(c), checkFact(name)); e != api.OK {
		return 0, e
	}
	return valuesOf(c)[name], api.OK
}

// Holds reports whether a condition holds for a claim.
func Holds(c Claim, t Test) (bool, api.Errno) {
	if e := check.First(CheckClaim(c), checkTest(t)); e != api.OK {
		return false, e
	}
	return holds(t, valuesOf(c)), api.OK
}

// Newcomer reports whether a carrier has few movements on a day.
func Newcomer(carrier string, day int, held []api.Request) (bool, api.Errno) {
	if e := check.First(check.Name(carrier), check.Day(day), checkHeld(held)); e != api.OK {
		return false, e
	}
	movements := 0
	for _, q := range held {
		if moves, _ := calendar.Has(q.Period, day); moves && q.Carrier == carrier {
			movements++
		}
	}
	return movements < NewcomerMax, api.OK
}

// facts returns all facts by their names.
func facts() map[string]fact {
	return map[string]fact{
		"historic":  {0, func(c Claim) int { return flag(c.Historic) }},
		"retimed":   {1, func(c Claim) int { return flag(c.Retimed) }},
		"newcomer":  {2, func(c Claim) int { return flag(c.Newcomer) }},
		"yearround": {3, func(c Claim) int { return flag(c.Yearround) }},
		"days":      {4, days},
		"seats":     {5, func(c Claim) int { return c.Request.Seats }},
		"size":      {6, func(c Claim) int { return c.Request.Size }},
		"noise":     {7, func(c Claim) int { return c.Request.Noise }},
		"distance":  {8, func(c Claim) int { return c.Distance }},
		"minute":    {9, func(c Claim) int { return c.Request.Minute }},
	}
}

func flag(is bool) int {
	if is {
		return 1
	}
	return 0
}

func days(c Claim) int {
	n, _ := calendar.Count(c.Request.Period)
	return n
}

// valuesOf returns all facts of a claim without error, by their names.
func valuesOf(c Claim) map[string]int {
	values := map[string]int{}
	for name, f := range facts() {
		values[name] = f.of(c)
	}
	return values
}

// holds reports whether a condition holds for a claim with these facts.
func holds(t Test, values map[string]int) bool {
	n := values[t.Fact]
	switch t.Op {
	case equalOp:
		return n == t.Value
	case lessOp:
		return n < t.Value
	}
	return n > t.Value
}

func checkFact(name string) api.Errno {
	_, found := facts()[name]
	return check.Unless(found, api.ErrUnknown)
}

func checkClaims(claims []Claim) api.Errno {
	return check.Named(claims, api.MaxRequests, func(c Claim) string { return c.Request.Name }, CheckClaim)
}

func checkHeld(held []api.Request) api.Errno {
	return check.Named(held, api.MaxRequests, func(q api.Request) string { return q.Name }, message.CheckRequest)
}
