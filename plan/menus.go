package plan

import (
	"slices"

	"turnround/allocate"
	"turnround/api"
	"turnround/calendar"
	"turnround/check"
	"turnround/lists"
)

// refusal is the choice that refuses a wish.
const refusal = -1

// choice is a choice of a wish, and its cost.
type choice struct {
	minute int
	cost   int
}

// menu is the choices of each wish, in their order. The numbers of a plan are the places of its choices among those of their wishes.
type menu [][]choice

// menuOf returns the choices of the wishes of a problem.
func menuOf(p Problem) menu {
	return lists.Transform(p.Wishes, func(w allocate.Wish) []choice {
		candidates, _ := allocate.Candidates(w)
		n, _ := calendar.Count(w.Request.Period)
		choices := lists.Transform(candidates, func(minute int) choice {
			return choice{minute, n * max(minute-w.Request.Minute, w.Request.Minute-minute)}
		})
		return append(choices, choice{refusal, n * p.Penalty})
	})
}

// withoutRefusals returns the choices that refuse no wish.
func (m menu) withoutRefusals() menu {
	return lists.Transform(m, func(choices []choice) []choice { return choices[:len(choices)-1] })
}

// checkSize returns ErrLimit if there are too many wishes, or too many plans, for an exact search, otherwise OK.
func (m menu) checkSize() api.Errno {
	if len(m) > api.MaxExact {
		return api.ErrLimit
	}
	size := 1
	for _, choices := range m {
		size *= len(choices)
	}
	return check.Unless(size <= MaxSearch, api.ErrLimit)
}

// numbers returns the numbers of a plan, or its error.
func (m menu) numbers(plan []int) ([]int, api.Errno) {
	if len(plan) != len(m) {
		return nil, api.ErrShape
	}
	numbers := make([]int, len(plan))
	for i, minute := range plan {
		numbers[i] = slices.Index(minutesOf(m[i]), minute)
		if numbers[i] < 0 {
			return nil, api.ErrOutside
		}
	}
	return numbers, api.OK
}

// plan returns the plan with some numbers.
func (m menu) plan(numbers []int) []int {
	plan := make([]int, len(numbers))
	for i, c := range numbers {
		plan[i] = m[i][c].minute
	}
	return plan
}

// costs returns the costs of the first choices of a plan, given by their numbers.
func (m menu) costs(numbers []int) []int {
	costs := make([]int, len(numbers))
	for i, c := range numbers {
		costs[i] = m[i][c].cost
	}
	return costs
}

// cost returns the sum of the costs of the first choices of a plan, given by their numbers.
func (m menu) cost(numbers []int) int {
	return lists.Sum(numbers, func(i, c int) int { return m[i][c].cost })
}

func minutesOf(choices []choice) []int {
	return lists.Transform(choices, func(c choice) int { return c.minute })
}
