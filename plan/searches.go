package plan

import (
	"cmp"
	"iter"
	"slices"

	"turnround/api"
	"turnround/lists"
)

// search visits the plans of a grid; counts has the numbers of movements in its windows.
type search struct {
	*grid
	counts []int
}

// Best returns the plan of least cost, and its cost.
func Best(p Problem) ([]int, int, api.Errno) {
	m, e := small(p)
	if e != api.OK {
		return nil, 0, e
	}
	numbers, _ := searchOf(m, near(p.Limits, p.Wishes)).cheapest()
	return m.plan(numbers), m.cost(numbers), api.OK
}

// Fair returns the plan with the least burdens.
func Fair(p Problem) ([]int, []Burden, api.Errno) {
	m, e := small(p)
	if e != api.OK {
		return nil, nil, e
	}
	var fairest []int
	var least []Burden
	// The burdens of a plan are not less than those of its first choices.
	isLess := func(first []int) bool {
		return fairest == nil || slices.CompareFunc(burdensOf(p.Wishes, m.costs(first)), least, byCost) < 0
	}
	for numbers := range searchOf(m, near(p.Limits, p.Wishes)).plans(lists.Ascending(len(m)), isLess) {
		fairest, least = slices.Clone(numbers), burdensOf(p.Wishes, m.costs(numbers))
	}
	return m.plan(fairest), least, api.OK
}

func byCost(a, b Burden) int { return cmp.Compare(a.Cost, b.Cost) }

// small returns the choices of a problem for an exact search, or its first error.
func small(p Problem) (menu, api.Errno) {
	if e := CheckProblem(p); e != api.OK {
		return nil, e
	}
	m := menuOf(p)
	return m, m.checkSize()
}

// searchOf returns the search for plans that fit at all of some airports.
func searchOf(m menu, ends ...end) *search {
	g := gridOf(m)
	// Of windows in which the same choices count the one with the least number of movements is enough.
	places := map[string]int{}
	for _, e := range ends {
		for w := range e.windows() {
			most, counted := e.limits[w[0]].Most, e.counted(w, m)
			if countWishes(counted) <= most {
				continue
			}
			key := keyOf(counted)
			if at, isThere := places[key]; isThere {
				g.most[at] = min(g.most[at], most)
				continue
			}
			places[key] = len(g.most)
			g.add(most, counted)
		}
	}
	return &search{g, make([]int, len(g.most))}
}

// countWishes returns how many wishes have a choice that counts.
func countWishes(counted [][]int) int {
	return lists.Sum(counted, func(_ int, numbers []int) int { return min(len(numbers), 1) })
}

// keyOf returns a string that differs for different choices of wishes, of which each has fewer than 255.
func keyOf(counted [][]int) string {
	var key []byte
	for _, numbers := range counted {
		for _, c := range numbers {
			key = append(key, byte(c))
		}
		key = append(key, 255)
	}
	return string(key)
}

// cheapest returns the numbers of the first plan of the least cost that fits, and whether there is one.
func (s *search) cheapest() ([]int, bool) {
	var best []int
	least, found := 0, false
	isLess := func(first []int) bool { return !found || s.cost(first) < least }
search:
	for numbers := range s.plans(lists.Ascending(len(s.menu)), isLess) {
		best, least, found = slices.Clone(numbers), s.cost(numbers), true
		if least == 0 {
			// No plan costs less.
			break search
		}
	}
	return best, found
}

// fits reports whether a plan for a set of wishes fits.
func (s *search) fits(set []int) bool {
	for range s.plans(set, func([]int) bool { return true }) {
		return true
	}
	return false
}

// plans visits the plans for a set of wishes that fit, in order, given by their numbers; those whose first choices are not worth it are left out. The numbers are changed after a visit.
func (s *search) plans(set []int, isWorth func(first []int) bool) iter.Seq[[]int] {
	return func(yield func([]int) bool) {
		s.extend(make([]int, 0, len(set)), set, isWorth, yield)
	}
}

// extend visits the plans with some first choices, and reports whether to go on.
func (s *search) extend(first, set []int, isWorth, yield func([]int) bool) bool {
	if len(first) == len(set) {
		return yield(first)
	}
	i := set[len(first)]
	for c := range len(s.menu[i]) {
		longer := append(first, c)
		if !isWorth(longer) || !s.hasRoom(i, c) {
			continue
		}
		s.count(i, c, 1)
		goOn := s.extend(longer, set, isWorth, yield)
		s.count(i, c, -1)
		if !goOn {
			return false
		}
	}
	return true
}

// hasRoom reports whether no window is exceeded with the movements of one more wish at a choice.
func (s *search) hasRoom(i, c int) bool {
	return !slices.ContainsFunc(s.within[i][c], func(at int) bool { return s.counts[at] == s.most[at] })
}

// count adds the movements of a wish at a choice to those in the windows, or takes them away.
func (s *search) count(i, c, by int) {
	for _, at := range s.within[i][c] {
		s.counts[at] += by
	}
}
