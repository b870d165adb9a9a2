package allocate_test

import (
	"fmt"
	"math"
	"slices"
	"testing"

	"turnround/allocate"
	"turnround/api"
)

// reason is a reason of the first limit for a wish without a link.
func reason(name string, minute, window int, holders ...string) allocate.Reason {
	return allocate.Reason{Name: name, Minute: minute, Other: -1, Window: window, Holders: holders}
}

// turning returns a reason for linked wishes.
func turning(other int, r allocate.Reason) allocate.Reason {
	r.Other = other
	return r
}

// by returns a reason of another limit.
func by(limit int, r allocate.Reason) allocate.Reason {
	r.Limit = limit
	return r
}

// argued is an allocation with its reasons.
type argued struct {
	what string
	scene
	minutes []int
	reasons []allocate.Reason
}

// exampleReasons are those of the first one of the chapter's examples.
func exampleReasons() []allocate.Reason {
	return list(reason("b", 610, 3480, "a"), reason("c", 610, 3480, "a"), reason("c", 590, 3420, "b"), reason("c", 630, 3480, "a"), reason("c", 650, 3480, "a"))
}

// arguments has allocations with their reasons.
func arguments() []argued {
	all, p := list(hour()), pair()
	day := hour(every(1440, 0, 0), lasting(1440))
	days := on(2, 4, 127)
	turn := list(wish("a", link("b"), only(590), ground(0, 1440)), wish("b", kind("D"), link("a"), only(670)))
	return []argued{
		{"nothing", scene{}, nil, nil},
		{"the example", scene{all, three()}, list(610, 590, 670), exampleReasons()},
		{"all have what they ask for", scene{nil, three()}, list(610, 610, 610), nil},
		{"a wish that is refused", scene{list(day), list(wish("a"), wish("b", at(610, 590, 630)))}, list(610, -1),
			list(reason("b", 610, 2880, "a"), reason("b", 590, 2880, "a"), reason("b", 630, 2880, "a"))},
		{"no holders", scene{list(hour(atMost(0))), list(wish("a", at(610, 590, 610)))}, list(-1),
			list(reason("a", 610, 3480), reason("a", 590, 3420))},
		{"refused ones hold nothing", scene{all, list(wish("a", only(610)), wish("b", only(610)), wish("c", only(650)))}, list(610, -1, -1),
			list(reason("b", 610, 3480, "a"), reason("c", 650, 3480, "a"))},
		{"holders in the order of the list", scene{list(hour(atMost(3))), list(wish("z"), wish("b"), wish("y", only(650)), wish("a", only(610)), wish("c", at(610, 590, 610)))}, list(610, 610, 650, -1, 590),
			list(reason("a", 610, 3480, "z", "b", "y"), reason("c", 610, 3480, "z", "b", "y"))},
		{"the first day of several", scene{list(hour(onDays(0, 9, 127), every(60, 0, 1380))), list(wish("a", on(3, 3, 127), only(610)), wish("b", days, at(610, 610, 630)))}, list(610, -1),
			list(reason("b", 610, 1440*3+600, "a"), reason("b", 630, 1440*3+600, "a"))},
		{"holders of one day", scene{list(hour(onDays(0, 9, 127))), list(wish("a", on(4, 4, 127), only(610)), wish("b", on(3, 3, 127), only(620)), wish("c", days, only(630)))}, list(610, 620, -1),
			list(reason("c", 630, 1440*3+600, "b"))},
		{"the first limit of several", scene{list(hour(named("a"), atMost(3)), hour(named("b"), every(10, 0, 1430), lasting(30)), hour(named("c"))), list(wish("a", only(620)), wish("b", only(630)))}, list(620, -1),
			list(by(1, reason("b", 630, 2880+610, "a")))},
		{"the first window of several", scene{list(hour(every(20, 0, 1420))), list(wish("a", only(640)), wish("b", only(600)))}, list(640, -1),
			list(reason("b", 600, 2880+600, "a"))},
		{"a window past midnight", scene{list(hour(onDays(1, 1, 127), every(1, 1439, 1439), lasting(1440))), list(wish("a", on(1, 1, 127), only(1439)), wish("b", only(1438)))}, list(1439, -1),
			list(reason("b", 1438, 2879, "a"))},
		{"a limit of a kind", scene{list(hour(ofKind("D"))), list(wish("a", kind("D")), wish("b"), wish("c", kind("D"), only(610)))}, list(610, 610, -1),
			list(reason("c", 610, 3480, "a"))},
		{"a limit of a terminal", scene{list(hour(ofTerminal("t"))), list(wish("a", in("t")), wish("b"), wish("c", in("u")), wish("d", in("t"), only(610)))}, list(610, 610, 610, -1),
			list(reason("d", 610, 3480, "a"))},

		{"the example of linked wishes", scene{all, p}, list(610, 670), list(turning(650, reason("p", 610, 3480)))},
		{"linked wishes that are refused", scene{list(day), p}, list(-1, -1), list(
			turning(650, reason("p", 610, 2880)), turning(670, reason("p", 610, 2880)), turning(650, reason("p", 590, 2880)),
			turning(630, reason("p", 590, 2880)), turning(670, reason("p", 630, 2880)))},
		{"linked wishes without an option", scene{list(day), list(changed(p[0], ground(1000, 1440)), p[1])}, list(-1, -1), nil},
		{"the departure leads", scene{all, list(p[1], p[0])}, list(650, 590), list(turning(610, reason("q", 650, 3480)))},
		{"a wish before linked ones", scene{all, append(list(wish("a", only(610))), p...)}, list(610, -1, -1), list(
			turning(650, reason("p", 610, 3480, "a")), turning(670, reason("p", 610, 3480, "a")), turning(650, reason("p", 590, 3480, "a")),
			turning(630, reason("p", 590, 3480, "a")), turning(670, reason("p", 630, 3480, "a")))},
		{"linked wishes apart", scene{list(hour(atMost(2))), list(p[0], wish("a", only(610)), p[1], wish("b", only(650)))}, list(610, -1, 650, -1),
			list(reason("a", 610, 3480, "p", "q"), reason("b", 650, 3480, "p", "q"))},
		{"holders behind the wish itself", scene{list(hour(ofKind("D"))), list(p[0], wish("a", kind("D"), only(610)), p[1])}, list(610, -1, 650),
			list(reason("a", 610, 3480, "q"))},
		{"the other wish of the option is no holder", scene{list(hour(atMost(2))), list(wish("a", only(620)), p[0], p[1])}, list(620, 610, 670),
			list(turning(650, reason("p", 610, 3480, "a")))},
		{"a window of the second wish alone", scene{list(hour(ofKind("D"))), list(wish("a", kind("D"), only(610)), p[0], p[1])}, list(610, 610, 670),
			list(turning(650, reason("p", 610, 3480, "a")))},
		{"a limit for departures before one for arrivals", scene{list(hour(named("out"), ofKind("D"), atMost(0)), hour(named("in"), ofKind("A"), atMost(0))), turn}, list(-1, -1),
			list(turning(670, reason("a", 590, 3540)))},
		{"a limit for arrivals before one for departures", scene{list(hour(named("in"), ofKind("A"), atMost(0)), hour(named("out"), ofKind("D"), atMost(0))), turn}, list(-1, -1),
			list(turning(670, reason("a", 590, 3420)))},
	}
}

// P6.3: the reasons of an allocation, for each option that is not granted the first window.
func TestReasons(t *testing.T) {
	for _, x := range arguments() {
		r := results(x.wishes, x.minutes...)
		want, e := firstReasons(x.scene, r)
		is(t, "the model: "+x.what, e, api.OK)
		isReasons(t, "the model: "+x.what, want, x.reasons)
		got, e := allocate.Reasons(x.limits, x.wishes, r)
		is(t, "Reasons: "+x.what, e, api.OK)
		isReasons(t, "Reasons: "+x.what, got, x.reasons)
		is(t, "CheckReasons: "+x.what, allocate.CheckReasons(x.limits, x.wishes, r, x.reasons), api.OK)
	}
}

// P6.3: there are no reasons if an option fits that a unit prefers to what it was granted.
func TestReasonsOfNone(t *testing.T) {
	all, p := list(hour()), pair()
	for _, x := range []argued{
		{"a refused wish could have its minute", scene{nil, three()}, list(610, -1, 610), nil},
		{"a wish could have its minute", scene{nil, three()}, list(610, 590, 610), nil},
		{"a free window", scene{all, three()}, list(610, -1, 670), nil},
		{"a window of a later one", scene{all, three()}, list(-1, 610, 670), nil},
		{"a later option of the first wish", scene{all, three()}, list(590, 610, 670), nil},
		{"the last unit", scene{all, three()}, list(610, 590, -1), nil},
		{"linked wishes could be granted", scene{nil, p}, list(-1, -1), nil},
		{"linked wishes could have another option", scene{nil, p}, list(610, 670), nil},
	} {
		r := results(x.wishes, x.minutes...)
		is(t, x.what, allocate.CheckAllocation(x.limits, x.wishes, r), api.OK)
		reasons, e := allocate.Reasons(x.limits, x.wishes, r)
		is(t, "Reasons: "+x.what, e, api.ErrProof)
		isReasons(t, "Reasons beside an error", reasons, nil)
		for _, reasons := range [][]allocate.Reason{nil, exampleReasons(), exampleReasons()[:1], make([]allocate.Reason, 1), make([]allocate.Reason, 1000)} {
			is(t, "CheckReasons: "+x.what, allocate.CheckReasons(x.limits, x.wishes, r, reasons), api.ErrProof)
		}
	}
}

// P6.3: reasons that differ in anything do not prove an allocation.
func TestCheckReasons(t *testing.T) {
	limits := list(hour(), hour(named("b"), atMost(9)))
	wrong := func(what string, change func(l []allocate.Reason) []allocate.Reason) {
		is(t, "CheckReasons: "+what, allocate.CheckReasons(limits, three(), results(three(), 610, 590, 670), change(exampleReasons())), api.ErrProof)
	}
	is(t, "CheckReasons", allocate.CheckReasons(limits, three(), results(three(), 610, 590, 670), exampleReasons()), api.OK)
	wrong("none", func(l []allocate.Reason) []allocate.Reason { return nil })
	wrong("one more", func(l []allocate.Reason) []allocate.Reason { return append(l, l[4]) })
	wrong("one of the granted option more", func(l []allocate.Reason) []allocate.Reason { return append(l, reason("c", 670, 3540)) })
	wrong("many more", func(l []allocate.Reason) []allocate.Reason { return append(l, make([]allocate.Reason, 1000)...) })
	for i := range exampleReasons() {
		wrong(fmt.Sprint("without one ", i), func(l []allocate.Reason) []allocate.Reason { return slices.Delete(l, i, i+1) })
		wrong(fmt.Sprint("one twice ", i), func(l []allocate.Reason) []allocate.Reason { return slices.Insert(l, i, l[i]) })
		wrong(fmt.Sprint("another order ", i), func(l []allocate.Reason) []allocate.Reason {
			j := (i + 1) % 5
			l[i], l[j] = l[j], l[i]
			return l
		})
		for what, change := range map[string]func(x *allocate.Reason){
			"another name":     func(x *allocate.Reason) { x.Name = "a" },
			"no name":          func(x *allocate.Reason) { x.Name = "" },
			"another minute":   func(x *allocate.Reason) { x.Minute++ },
			"another option":   func(x *allocate.Reason) { x.Minute = 670 },
			"a second wish":    func(x *allocate.Reason) { x.Other = 0 },
			"no second wish":   func(x *allocate.Reason) { x.Other = -2 },
			"another limit":    func(x *allocate.Reason) { x.Limit = 1 },
			"no limit":         func(x *allocate.Reason) { x.Limit = 2 },
			"a limit below":    func(x *allocate.Reason) { x.Limit = -1 },
			"a least limit":    func(x *allocate.Reason) { x.Limit = math.MinInt },
			"a greatest limit": func(x *allocate.Reason) { x.Limit = math.MaxInt },
			"no window":        func(x *allocate.Reason) { x.Window++ },
			"another window":   func(x *allocate.Reason) { x.Window = 3540 },
			"a least window":   func(x *allocate.Reason) { x.Window = math.MinInt },
			"a great window":   func(x *allocate.Reason) { x.Window = math.MaxInt },
			"no holders":       func(x *allocate.Reason) { x.Holders = nil },
			"another holder":   func(x *allocate.Reason) { x.Holders = list("c") },
			"one holder more":  func(x *allocate.Reason) { x.Holders = list("a", "b") },
			"a holder twice":   func(x *allocate.Reason) { x.Holders = append(x.Holders, x.Holders...) },
			"an empty holder":  func(x *allocate.Reason) { x.Holders = append(x.Holders, "") },
		} {
			wrong(fmt.Sprint(what, " ", i), func(l []allocate.Reason) []allocate.Reason {
				change(&l[i])
				return l
			})
		}
	}
}

// P6.3: any window that refuses an option proves it, with its holders.
func TestAnyWindow(t *testing.T) {
	limits := list(hour(every(30, 0, 1410)), hour(named("b"), ofKind("A"), atMost(2), onDays(0, 9, 127)))
	l := list(wish("a", on(2, 3, 127), only(610)), wish("b", on(3, 4, 127), only(670)), wish("c", on(3, 3, 127), only(659)), wish("d", on(2, 3, 127), only(620)))
	r := results(l, 610, 670, -1, -1)
	is(t, "CheckAllocation", allocate.CheckAllocation(limits, l, r), api.OK)
	c := reason("c", 659, 2*1440+630, "b")
	is(t, "no reason of another day", allocate.CheckReasons(limits, l, r, list(c, reason("d", 620, 3480, "a"))), api.ErrProof)
	limits[0].Period = api.Period{From: 2, To: 4, Days: 127}
	c.Window = 3*1440 + 630
	for _, x := range []struct {
		what    string
		c, d    allocate.Reason
		want    api.Errno
		reasons bool
	}{
		{"the first windows", reason("c", 659, 3*1440+600, "a"), reason("d", 620, 2*1440+570, "a"), api.OK, true},
		{"the second window of c", c, reason("d", 620, 2*1440+570, "a"), api.OK, false},
		{"the second window of c with the holder of the first one", reason("c", 659, 3*1440+630, "a"), reason("d", 620, 2*1440+570, "a"), api.ErrProof, false},
		{"the second window of d", c, reason("d", 620, 2*1440+600, "a"), api.OK, false},
		{"a window of the second day of d", c, reason("d", 620, 3*1440+570, "a"), api.OK, false},
		{"the last window of d", c, reason("d", 620, 3*1440+600, "a"), api.OK, false},
		{"a window behind d", c, reason("d", 620, 3*1440+630, "b"), api.ErrProof, false},
		{"a window before d", c, reason("d", 620, 3*1440+540, "a"), api.ErrProof, false},
		{"a window that is not exceeded", c, by(1, reason("d", 620, 3*1440+600, "a")), api.ErrProof, false},
	} {
		reasons := list(x.c, x.d)
		is(t, "CheckReasons: "+x.what, allocate.CheckReasons(limits, l, r, reasons), x.want)
		got := ok[[]allocate.Reason](t)(allocate.Reasons(limits, l, r))
		is(t, "Reasons: "+x.what, slices.EqualFunc(got, reasons, equalReasons), x.reasons)
	}
}

// P6.3: reasons of any allocation, and what proves it, as the definitions say.
func TestReasonsModel(t *testing.T) {
	x := noise(31)
	seen := map[api.Errno]int{}
	several := 0
	for range 1500 {
		s := x.someScene()
		r := x.someAllocation(s)
		what := fmt.Sprint(s, r)
		want, wantE := firstReasons(s, r)
		got, e := allocate.Reasons(s.limits, s.wishes, r)
		is(t, "error of Reasons "+what, e, wantE)
		isReasons(t, "Reasons "+what, got, want)
		seen[e]++
		all := reasonsOf(s, r)
		for range 5 {
			reasons := x.someReasons(all)
			isProof := len(reasons) == len(all)
			for i := 0; isProof && i < len(all); i++ {
				isProof = slices.ContainsFunc(all[i], func(x allocate.Reason) bool { return equalReasons(x, reasons[i]) })
			}
			is(t, fmt.Sprint("CheckReasons ", what, reasons), allocate.CheckReasons(s.limits, s.wishes, r, reasons) == api.OK, isProof)
			if isProof && len(all) > 0 && !slices.EqualFunc(reasons, want, equalReasons) {
				several++
			}
		}
	}
	is(t, fmt.Sprint("there are some of each: ", seen, several), seen[api.OK] > 300 && seen[api.ErrProof] > 300 && several > 100, true)
}

// someReasons returns one of the reasons for each option, and sometimes something else.
func (x *noise) someReasons(all [][]allocate.Reason) []allocate.Reason {
	var some []allocate.Reason
	for _, reasons := range all {
		if len(reasons) > 0 {
			some = append(some, pick(x, reasons...))
		}
	}
	if len(some) == 0 || x.next(2) == 0 {
		return some
	}
	some = slices.Clone(some)
	switch at := x.next(len(some)); x.next(6) {
	case 0:
		some = slices.Delete(some, at, at+1)
	case 1:
		some[at].Holders = some[len(some)-1-at].Holders
	case 2:
		some[at].Window += pick(x, -1440, -60, -5, 5, 60, 1440)
	case 3:
		some[at].Limit = x.next(3)
	case 4:
		some[at] = some[len(some)-1-at]
	case 5:
		some[at].Minute += pick(x, 5, 10, 20)
	}
	return some
}

// protest is an allocation with what is against it.
type protest struct {
	what string
	scene
	minutes []int
	envy    allocate.Complaint
	waste   allocate.Complaint
}

// nothing is no complaint.
var nothing = allocate.Complaint{}

func complaint(index, minute, other int, blockers ...string) allocate.Complaint {
	return allocate.Complaint{Index: index, Minute: minute, Other: other, Blockers: blockers}
}

// protests has allocations with complaints and waste.
func protests() []protest {
	all, p := list(hour()), pair()
	two := list(hour(atMost(2)))
	apart := list(p[0], wish("a"), p[1], wish("b"))
	return []protest{
		{"nothing", scene{}, nil, nothing, nothing},
		{"the serial one", scene{all, three()}, list(610, 590, 670), nothing, nothing},
		{"none permitted", scene{list(hour(atMost(0))), three()}, list(-1, -1, -1), nothing, nothing},
		{"the first wish is refused", scene{all, three()}, list(-1, 610, 670), complaint(0, 610, -1, "b"), complaint(0, 590, -1)},
		{"the second wish is refused", scene{all, three()}, list(610, -1, 670), complaint(1, 590, -1), complaint(1, 590, -1)},
		{"the last wish is refused", scene{all, three()}, list(610, 590, -1), complaint(2, 670, -1), complaint(2, 670, -1)},
		{"all are refused", scene{all, three()}, list(-1, -1, -1), complaint(0, 610, -1), complaint(0, 610, -1)},
		{"the last one has what the first one asks for", scene{all, three()}, list(670, 590, 610), complaint(0, 610, -1, "c"), nothing},
		{"two have changed their places", scene{all, three()}, list(610, 670, 590), complaint(1, 590, -1, "c"), nothing},
		{"a better option, but not the best one", scene{all, list(wish("a"), wish("b"), wish("c", only(670)), wish("d"))}, list(610, -1, 670, 590), complaint(1, 590, -1, "d"), nothing},
		{"a later option of a better wish", scene{nil, three()}, list(610, 670, 590), complaint(1, 610, -1), complaint(1, 610, -1)},
		{"two blockers", scene{two, list(wish("a"), wish("z"), wish("b", only(640)), wish("c"))}, list(670, 590, 640, 610), complaint(0, 610, -1, "b", "c"), complaint(0, 590, -1)},
		{"one of several windows has a blocker", scene{list(hour(every(20, 540, 700))), list(wish("a"), wish("b", only(640)))}, list(-1, 640), complaint(0, 610, -1, "b"), complaint(0, 590, -1)},
		{"a better one is no blocker", scene{two, list(wish("z", only(630)), wish("a"), wish("c", of("y")))}, list(630, 670, 610), complaint(1, 610, -1, "c"), complaint(1, 590, -1)},
		{"blockers of several days and limits", scene{list(hour(onDays(0, 9, 127)), hour(named("b"), ofKind("D"), every(30, 0, 1410), onDays(0, 9, 127))), list(
			wish("a", kind("D"), on(2, 4, 127)), wish("f", on(4, 4, 127), only(655)), wish("e", kind("D"), on(3, 3, 127), only(630)), wish("d", on(3, 3, 127), only(665)),
			wish("c", kind("D"), only(590)), wish("b", kind("D"), only(660)))}, list(-1, 655, 630, 665, 590, 660), complaint(0, 610, -1, "f", "e", "c"), nothing},
		{"the example of linked wishes", scene{all, p}, list(610, 670), nothing, nothing},
		{"linked wishes are refused", scene{all, p}, list(-1, -1), complaint(0, 610, 670), complaint(0, 610, 670)},
		{"linked wishes have a later option", scene{all, p}, list(590, 650), complaint(0, 610, 670), complaint(0, 610, 670)},
		{"linked wishes, and a wish in their place", scene{all, append(pair(), wish("a"))}, list(-1, -1, 610), complaint(0, 610, 670, "a"), nothing},
		{"linked wishes apart", scene{two, apart}, list(-1, 610, -1, 610), complaint(0, 610, 650, "a", "b"), nothing},
		{"linked wishes apart with one in their place", scene{two, apart}, list(610, -1, 670, 610), complaint(0, 610, 650, "b"), complaint(1, 590, -1)},
		{"a linked wish is a blocker", scene{two, list(wish("a"), p[0], p[1])}, list(590, 610, 650), complaint(0, 610, -1, "p", "q"), nothing},
		{"the departure leads", scene{all, list(p[1], wish("a", only(650)), p[0])}, list(-1, 650, -1), complaint(0, 650, 590, "a"), nothing},
		{"a linked wish that comes later is no blocker of its own", scene{two, list(p[0], wish("a", only(640)), p[1])}, list(590, 640, 650), complaint(0, 610, 650, "a"), complaint(0, 610, 670)},
	}
}

// P6.3: the complaint against an allocation, and the waste in it.
func TestEnvyAndWaste(t *testing.T) {
	for _, x := range protests() {
		r := results(x.wishes, x.minutes...)
		check := func(what string, got, want allocate.Complaint, e api.Errno) {
			t.Helper()
			isComplaint(t, what+": "+x.what, got, want)
			if want.Minute == 0 {
				is(t, what+": "+x.what, e, api.ErrNone)
			} else {
				is(t, what+": "+x.what, e, api.OK)
			}
		}
		c, e := complaintOf(x.scene, r)
		check("the model of Envy", c, x.envy, e)
		c, e = wasteOf(x.scene, r)
		check("the model of Waste", c, x.waste, e)
		c, e = allocate.Envy(x.limits, x.wishes, r)
		check("Envy", c, x.envy, e)
		c, e = allocate.Waste(x.limits, x.wishes, r)
		check("Waste", c, x.waste, e)
	}
}

// P6.3: complaints and waste as the definitions say.
func TestEnvyAndWasteModel(t *testing.T) {
	x := noise(32)
	envy, waste := 0, 0
	var blocked [8]int
	for range 1500 {
		s := x.someScene()
		r := x.someAllocation(s)
		what := fmt.Sprint(s, r)
		want, wantE := complaintOf(s, r)
		got, e := allocate.Envy(s.limits, s.wishes, r)
		is(t, "error of Envy "+what, e, wantE)
		isComplaint(t, "Envy "+what, got, want)
		if e == api.OK {
			envy++
		}
		blocked[len(got.Blockers)]++
		want, wantE = wasteOf(s, r)
		got, e = allocate.Waste(s.limits, s.wishes, r)
		is(t, "error of Waste "+what, e, wantE)
		isComplaint(t, "Waste "+what, got, want)
		if e == api.OK {
			waste++
		}
	}
	is(t, fmt.Sprint("there are some of each: ", envy, waste, blocked), envy > 300 && envy < 1200 && waste > 300 && waste < 1200 && blocked[1] > 100 && blocked[2] > 30, true)
}
