package plan

import (
	"iter"
	"slices"

	"turnround/calendar"
	"turnround/capacity"
	"turnround/lists"
)

// window is a window of some limits: the index of its limit, and the moment at which it begins.
type window [2]int

// grid is the choices of wishes beside windows: the greatest number of movements in each window, and for each choice of each wish the windows in which a movement counts, given by their places.
type grid struct {
	menu
	most   []int
	within [][][]int
}

func gridOf(m menu) *grid {
	return &grid{menu: m, within: lists.Transform(m, func(choices []choice) [][]int { return make([][]int, len(choices)) })}
}

// add adds a window with those choices of each wish, given by their numbers, whose movements count in it.
func (g *grid) add(most int, counted [][]int) {
	for i, numbers := range counted {
		for _, c := range numbers {
			g.within[i][c] = append(g.within[i][c], len(g.most))
		}
	}
	g.most = append(g.most, most)
}

// counted returns for each wish the numbers of its choices of which a movement counts in a window.
func (e end) counted(w window, m menu) [][]int {
	counted := make([][]int, len(m))
	for i, choices := range m {
		for c, x := range choices {
			if chosen(e.asked[i], x.minute).CountsIn(e.limits[w[0]], w[1]) {
				counted[i] = append(counted[i], c)
			}
		}
	}
	return counted
}

// windows visits windows of the limits that can be exceeded. Of windows that differ in their days alone, whatever the wishes are granted, it visits the first one.
func (e end) windows() iter.Seq[window] {
	return func(yield func(window) bool) {
		for i, l := range e.limits {
			// A window has at most one movement of each wish.
			if l.Most >= len(e.asked) {
				continue
			}
			seen := map[[3]uint]bool{}
			days, _ := calendar.DaysOf(l.Period)
			for _, day := range days {
				// An arrival may be on the day after its departure, and a window may end on the day after its beginning.
				around := [3]uint{e.active(day - 1), e.active(day), e.active(day + 1)}
				if seen[around] {
					continue
				}
				seen[around] = true
				begins, _ := capacity.Begins(l, day)
				for _, begin := range begins {
					if !yield(window{i, begin}) {
						return
					}
				}
			}
		}
	}
}

// active returns the set of the wishes, at most 64, that have a movement on a day: the bit of each index in it is set.
func (e end) active(day int) uint {
	var set uint
	for i, asked := range e.asked {
		if _, isOn := slices.BinarySearch(asked.Days, day); isOn {
			set |= 1 << i
		}
	}
	return set
}
