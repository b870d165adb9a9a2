package plan

import (
	"slices"

	"turnround/lists"
	"turnround/tally"
)

// patience is how many times amounts are changed by one step.
const patience = 50

// market looks for prices with a high bound: the windows of the grid, the amounts with the highest sum that was charged, and this sum; empty has no movements.
type market struct {
	*grid
	here    end
	empty   *tally.Tally
	unit    int
	windows []window
	amounts []int
	sum     int
}

// marketOf returns the market of a problem without prices.
func marketOf(p Problem) *market {
	m := &market{grid: gridOf(menuOf(p)), here: near(p.Limits, p.Wishes), empty: tally.Of(p.Limits)}
	m.unit = unitOf(m.menu)
	return m
}

// unitOf returns the greatest unit with which a price may be as high as the cost of each choice.
func unitOf(m menu) int {
	highest := 1
	for _, choices := range m {
		for _, c := range choices {
			highest = max(highest, c.cost)
		}
	}
	return min(max(MaxAmount/highest, 1), MaxUnit)
}

// settle raises the amounts of windows that are in demand, and lowers those of others, by smaller and smaller steps. What is in demand at some prices shows which windows are worth one, too.
func (m *market) settle() {
	for step := MaxAmount; step > 0; step /= 2 {
		for m.enlarge(m.adjust(step)) {
		}
	}
}

// adjust changes the amounts by a step as often as patience lasts, keeps the best ones, and returns the numbers of the cheapest plan at the last ones.
func (m *market) adjust(step int) []int {
	var cheapest []int
	amounts := slices.Clone(m.amounts)
	for range patience {
		var sum int
		sum, cheapest = m.charge(amounts, m.unit)
		if sum > m.sum {
			m.amounts, m.sum = slices.Clone(amounts), sum
		}
		for at, demand := range m.demand(cheapest) {
			amounts[at] = min(max(amounts[at]+step*(demand-m.most[at]), 0), MaxAmount)
		}
	}
	return cheapest
}

// demand returns the number of movements of a plan in each window.
func (m *market) demand(numbers []int) []int {
	demand := make([]int, len(m.windows))
	for i, c := range numbers {
		for _, at := range m.within[i][c] {
			demand[at]++
		}
	}
	return demand
}

// enlarge adds the first and the last one of the windows that a plan exceeds most, as long as there may be more prices, and reports whether one of them is new.
func (m *market) enlarge(numbers []int) bool {
	before := len(m.windows)
	for _, w := range m.worst(m.plan(numbers)) {
		if len(m.windows) == MaxPrices || slices.Contains(m.windows, w) {
			continue
		}
		m.add(m.here.limits[w[0]].Most, m.here.counted(w, m.menu))
		m.windows = append(m.windows, w)
		m.amounts = append(m.amounts, 0)
	}
	return len(m.windows) > before
}

// worst returns the first and the last one of the windows that a plan exceeds by the most movements, or nothing if it fits.
func (m *market) worst(plan []int) []window {
	series := lists.Transform(lists.Ascending(len(plan)), func(i int) tally.Series {
		return chosen(m.here.asked[i], plan[i])
	})
	var worst []window
	most := 0
	for x := range m.empty.Exceeded(series...) {
		w := window{x.Limit, x.Begin}
		switch excess := x.Count - m.here.limits[x.Limit].Most; {
		case excess > most:
			worst, most = []window{w, w}, excess
		case excess == most:
			worst[1] = w
		}
	}
	return worst
}

// prices returns the prices of all windows that have one.
func (m *market) prices() []Price {
	var prices []Price
	for at, amount := range m.amounts {
		if amount > 0 {
			prices = append(prices, Price{Limit: m.windows[at][0], Window: m.windows[at][1], Amount: amount})
		}
	}
	slices.SortFunc(prices, byWindow)
	return prices
}
