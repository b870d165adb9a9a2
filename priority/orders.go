package priority

import (
	"cmp"
	"iter"
	"slices"

	"turnround/api"
	"turnround/check"
	"turnround/lists"
)

// What puts a claim behind another one, beside facts.
const (
	byShare = "share"
	byClass = "class"
	byLot   = "lot"
)

// ranking is claims as a program and a key rank them: where each one stands, what compares two of them, given by their indices, and the base order.
type ranking struct {
	program   Program
	claims    []Claim
	standings []standing
	compare   func(a, b int) int
	base      []int
}

// Rank returns the order of claims.
func Rank(p Program, key int, claims []Claim) ([]int, api.Errno) {
	r, e := rank(p, key, claims)
	if e != api.OK {
		return nil, e
	}
	return r.order(), api.OK
}

// Why returns for each claim but the first one what puts it behind the one before.
func Why(p Program, key int, claims []Claim) ([]string, api.Errno) {
	r, e := rank(p, key, claims)
	if e != api.OK {
		return nil, e
	}
	order := r.order()
	var reasons []string
	for place := range len(order) - 1 {
		reasons = append(reasons, r.reason(order[place], order[place+1]))
	}
	return reasons, api.OK
}

// CheckRank returns OK if an order is that of claims.
func CheckRank(p Program, key int, claims []Claim, order []int) api.Errno {
	right, e := Rank(p, key, claims)
	return check.First(e, checkProof(order, right))
}

// Better returns the indices of the claims that come ahead of one.
func Better(p Program, key int, claims []Claim, claim int) ([]int, api.Errno) {
	order, e := Rank(p, key, claims)
	if e != api.OK {
		return nil, e
	}
	place := slices.Index(order, claim)
	if place < 0 {
		return nil, api.ErrUnknown
	}
	return order[:place], api.OK
}

func rank(p Program, key int, claims []Claim) (ranking, api.Errno) {
	if e := check.First(CheckProgram(p), checkDraw(key), checkClaims(claims)); e != api.OK {
		return ranking{}, e
	}
	standings := lists.Transform(claims, func(c Claim) standing { return standingOf(p, c) })
	lots := lotsOf(key, claims)
	r := ranking{program: p, claims: claims, standings: standings, base: lists.Ascending(len(claims))}
	r.compare = func(a, b int) int {
		return cmp.Or(standings[a].compare(standings[b]), cmp.Compare(lots[a], lots[b]))
	}
	slices.SortFunc(r.base, r.compare)
	return r, api.OK
}

// pool visits the claims that are not before the pool, with their indices, in the base order.
func (r ranking) pool() iter.Seq2[int, Claim] {
	return func(yield func(int, Claim) bool) {
		for _, i := range r.base {
			if r.standings[i].class >= r.program.Pool && !yield(i, r.claims[i]) {
				return
			}
		}
	}
}

// order returns the base order with the share of newcomers in the pool, which is at its end.
func (r ranking) order() []int {
	var pool []int
	var newcomers []bool
	for i, c := range r.pool() {
		pool = append(pool, i)
		newcomers = append(newcomers, c.Newcomer)
	}
	order := make([]int, len(r.base))
	copy(order, r.base)
	first := len(order) - len(pool)
	for place, at := range interleave(r.program.Of, r.program.For, newcomers) {
		order[first+place] = pool[at]
	}
	return order
}

// reason returns what puts a claim behind the one before it, both given by their indices.
func (r ranking) reason(before, behind int) string {
	a, b := r.standings[before], r.standings[behind]
	switch {
	case r.compare(behind, before) < 0:
		return byShare
	case a.class != b.class:
		return byClass
	}
	for i, value := range a.by {
		if value != b.by[i] {
			return r.program.Classes[a.class].By[i].Fact
		}
	}
	return byLot
}
