package plan

import (
	"slices"

	"turnround/api"
	"turnround/capacity"
	"turnround/check"
	"turnround/lists"
)

// CheckPrices returns the first error of prices, or OK.
func CheckPrices(p Problem, l []Price, unit int) api.Errno {
	before := Price{}
	return check.First(
		CheckProblem(p),
		check.Range(unit, 1, MaxUnit),
		check.List(l, MaxPrices, func(x Price) api.Errno {
			e := checkPrice(p.Limits, x, before)
			before = x
			return e
		}),
	)
}

// Bound returns a lower bound of the cost of every plan, by prices.
func Bound(p Problem, l []Price, unit int) (int, api.Errno) {
	if e := CheckPrices(p, l, unit); e != api.OK {
		return 0, e
	}
	return bound(p, l, unit), api.OK
}

// Prices returns prices, and their unit.
func Prices(p Problem) ([]Price, int, api.Errno) {
	if e := CheckProblem(p); e != api.OK {
		return nil, 0, e
	}
	m := marketOf(p)
	m.settle()
	return m.prices(), m.unit, api.OK
}

// Gap returns the cost of a plan less the bound by prices.
func Gap(p Problem, plan []int, l []Price, unit int) (int, api.Errno) {
	cost, e := Cost(p, plan)
	if e = check.First(e, CheckPrices(p, l, unit)); e != api.OK {
		return 0, e
	}
	if !admit(near(p.Limits, p.Wishes).guests(), plan) {
		return 0, api.ErrFull
	}
	return cost - bound(p, l, unit), api.OK
}

// checkPrice returns the error of a price behind another one, which is zero if there is none.
func checkPrice(limits []capacity.Limit, x, before Price) api.Errno {
	if x.Limit < 0 || x.Limit >= len(limits) {
		return api.ErrUnknown
	}
	_, e := capacity.Count(limits[x.Limit], nil, x.Window)
	return check.First(
		check.Unless(e == api.OK, api.ErrNone),
		check.Range(x.Amount, 1, MaxAmount),
		check.Unless(before == Price{} || byWindow(before, x) < 0, api.ErrOrder),
	)
}

// byWindow compares prices by their limits, then by the beginnings of their windows.
func byWindow(a, b Price) int {
	x, y := windowOf(a), windowOf(b)
	return slices.Compare(x[:], y[:])
}

func windowOf(x Price) window { return window{x.Limit, x.Window} }

// bound returns the bound by prices.
func bound(p Problem, l []Price, unit int) int {
	g, here := gridOf(menuOf(p)), near(p.Limits, p.Wishes)
	for _, x := range l {
		g.add(p.Limits[x.Limit].Most, here.counted(windowOf(x), g.menu))
	}
	sum, _ := g.charge(lists.Transform(l, func(x Price) int { return x.Amount }), unit)
	if sum <= 0 {
		return sum / unit
	}
	return (sum + unit - 1) / unit
}

// charge returns, if the places in windows have prices, what all wishes pay at least, less what all places bring; and the numbers of the plan in which each wish pays the least.
func (g *grid) charge(amounts []int, unit int) (sum int, cheapest []int) {
	sum = -lists.Sum(amounts, func(at, amount int) int { return amount * g.most[at] })
	for i, choices := range g.menu {
		pays := lists.Transform(lists.Ascending(len(choices)), func(c int) int {
			return unit*choices[c].cost + lists.Sum(g.within[i][c], func(_, at int) int { return amounts[at] })
		})
		least := slices.Min(pays)
		sum += least
		cheapest = append(cheapest, slices.Index(pays, least))
	}
	return sum, cheapest
}
