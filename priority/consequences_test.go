package priority_test

import (
	"fmt"
	"slices"
	"strings"
	"testing"

	"turnround/api"
	"turnround/priority"
)

// P5.5: a program whose string is not too long is parsed as it was printed.
func TestPrintedIsParsed(t *testing.T) {
	x := noise(55)
	short, long := 0, 0
	for range 1000 {
		p := x.someProgram()
		s := ok[string](t)(priority.Print(p))
		is(t, "Print", s, printed(p))
		got, at, e := priority.Parse(s)
		is(t, "index of Parse "+s, at, 0)
		if len(s) > 4096 {
			long++
			is(t, "Parse "+s, e, api.ErrLong)
			continue
		}
		short++
		is(t, "Parse "+s, e, api.OK)
		isProgram(t, "Parse "+s, got, p)
	}
	is(t, fmt.Sprint("most are short: ", short, long), short > 900, true)
}

// P5.5: a program whose string has exactly 4096 bytes is parsed; with a byte more it is too long.
func TestLongestParsed(t *testing.T) {
	p := longest()
	for i := range p.Classes {
		c := &p.Classes[i]
		c.Name = fmt.Sprintf("k%02d", i)
		if i >= 6 {
			c.When = c.When[:7]
		}
	}
	for i := range p.Classes {
		missing := 4096 - len(printed(p))
		p.Classes[i].Name += strings.Repeat("x", min(missing, 21))
	}
	s := ok[string](t)(priority.Print(p))
	is(t, "length", len(s), 4096)
	got, at, e := priority.Parse(s)
	is(t, "Parse", e, api.OK)
	is(t, "index", at, 0)
	isProgram(t, "Parse", got, p)
	p.Classes[15].Name += "x"
	s = ok[string](t)(priority.Print(p))
	is(t, "length with a byte more", len(s), 4097)
	isWrong(t, s, 0, api.ErrLong)
}

// P5.5: what was parsed is printed as it was, and all other strings have the errors of the definition.
func TestParsedIsPrinted(t *testing.T) {
	x := noise(56)
	parts := []string{"class ", "class", "pool ", " when ", " by ", " share ", " of ", "=", "<", ">", "+", "-", " ", "\n", "0", "1", "9", "a", "k0", "seats", "seats=1", "seats-", "days+", "\x00", "\xff", "é", "\r", "class a\n", "class k1 when seats=1\n", "pool 0 share 0 of 1\n", "pool 1 share 1 of 2\n", "when", "by"}
	seen := map[api.Errno]int{}
	for range 8000 {
		s := x.someText()
		for range x.next(3) {
			at := x.next(len(s) + 1)
			end := min(len(s), at+pick(&x, 0, 0, 1, 1, 2, 5, x.next(20)))
			s = s[:at] + pick(&x, append(parts, "", "", "")...) + s[end:]
		}
		isAsParsed(t, s)
		_, _, e := priority.Parse(s)
		seen[e]++
	}
	for _, e := range []api.Errno{api.OK, api.ErrSyntax, api.ErrTorn, api.ErrEmpty, api.ErrRange, api.ErrName, api.ErrUnknown, api.ErrTwice, api.ErrMany} {
		is(t, fmt.Sprint("there are some of each error: ", e, seen), seen[e] > 10, true)
	}
}

// someText returns the lines of a program, some of which may be left out, repeated, or wrong.
func (x *noise) someText() string {
	p := x.someProgram()
	p.Classes = p.Classes[:min(len(p.Classes), 3)]
	p.Pool = x.next(len(p.Classes) + 1)
	if x.next(8) == 0 {
		p.Pool, p.For, p.Of = x.next(6), x.next(4), pick(x, 0, 1, 3, 100, 101)
	}
	if c := &p.Classes[0]; x.next(8) == 0 {
		c.When = slices.Repeat(append(c.When, when("size", "=", 1)), 1+x.next(9))
		c.By = append(c.By, up(pick(x, facts...)))
	}
	text := ""
	for _, line := range strings.SplitAfter(printed(p), "\n") {
		text += strings.Repeat(line, pick(x, 1, 1, 1, 1, 1, 1, 1, 1, 0, 2))
	}
	return text
}

// isAsParsed checks a string against the definition.
func isAsParsed(t *testing.T, s string) {
	t.Helper()
	p, at, e := priority.Parse(s)
	want, wantAt, wantE := parsed(s)
	is(t, fmt.Sprintf("index of Parse %q", s), at, wantAt)
	is(t, fmt.Sprintf("error of Parse %q", s), e, wantE)
	isProgram(t, fmt.Sprintf("Parse %q", s), p, want)
	if e == api.OK {
		is(t, "Print", ok[string](t)(priority.Print(p)), s)
	}
}

// P5.5: strings that differ from a program in one byte, or have a byte more or less, are parsed as the definition says.
func TestChangedBytes(t *testing.T) {
	s := "class k when seats<10 size=4 by days+ noise-\nclass j\npool 1 share 1 of 10\n"
	for i := range len(s) + 1 {
		isAsParsed(t, s[:i]+s[min(i+1, len(s)):])
		for b := range 256 {
			more := string([]byte{byte(b)})
			isAsParsed(t, s[:i]+more+s[min(i+1, len(s)):])
			isAsParsed(t, s[:i]+more+s[i:])
		}
	}
}

// P5.5: Compare is a total preorder.
func TestComparePreorder(t *testing.T) {
	x := noise(57)
	for range 60 {
		p, l := x.someProgram(), x.someClaims(7)
		var compared [7][7]int
		for i := range l {
			for j := range l {
				compared[i][j] = ok[int](t)(priority.Compare(p, l[i], l[j]))
			}
		}
		for i := range l {
			is(t, "a claim and itself", compared[i][i], 0)
			for j := range l {
				is(t, "the other way round", compared[i][j], -compared[j][i])
				for k := range l {
					if compared[i][j] <= 0 && compared[j][k] <= 0 && compared[i][k] > 0 {
						t.Errorf("what follows of two comparisons by %v of %v, %v, %v: got %d", p, l[i], l[j], l[k], compared[i][k])
					}
				}
			}
		}
	}
}

// namesOf returns the names of claims in an order.
func namesOf(claims []priority.Claim, order []int) []string {
	var all []string
	for _, i := range order {
		all = append(all, claims[i].Request.Name)
	}
	return all
}

// P5.5: the order does not depend on the order in which the claims are given.
func TestGivenOrder(t *testing.T) {
	x := noise(58)
	for range 300 {
		p, l := x.someProgram(), x.someClaims(pick(&x, 2, 9, 64, x.next(65)))
		if x.next(4) == 0 {
			p = program(0, class("a", nil))
		}
		key := 1 + x.next(2000000000)
		order := namesOf(l, ok[[]int](t)(priority.Rank(p, key, l)))
		why := ok[[]string](t)(priority.Why(p, key, l))
		lots := ok[[]int](t)(priority.Lots(key, l))
		other := shuffle(&x, l)
		isList(t, fmt.Sprint("the order of ", other), namesOf(other, ok[[]int](t)(priority.Rank(p, key, other))), order)
		isList(t, fmt.Sprint("the reasons of ", other), ok[[]string](t)(priority.Why(p, key, other)), why)
		otherLots := ok[[]int](t)(priority.Lots(key, other))
		for i, c := range l {
			is(t, "the lot of "+c.Request.Name, otherLots[slices.Index(other, c)], lots[i])
		}
	}
}

// P5.5: with an empty pool the order has each claim before all those before which it comes.
func TestEmptyPool(t *testing.T) {
	x := noise(59)
	for range 300 {
		p, l := x.someProgram(), x.someClaims(x.next(12))
		p.Classes[len(p.Classes)-1].When = nil
		p.Pool = len(p.Classes)
		order := ok[[]int](t)(priority.Rank(p, 7, l))
		for place, i := range order {
			for _, j := range order[place:] {
				is(t, fmt.Sprint("the later one comes before the earlier one by ", p, " of ", l[i], l[j]), ok[int](t)(priority.Compare(p, l[i], l[j])) <= 0, true)
			}
		}
	}
}

// P5.5: of the first places of the pool as many are for newcomers as the share says, as long as there are some, and of others, too.
func TestShares(t *testing.T) {
	x := noise(60)
	exact := 0
	for range 500 {
		p, l := x.someProgram(), x.someClaims(x.next(65))
		p.Of = pick(&x, 1, 2, 3, 4, 7)
		p.For = x.next(p.Of + 1)
		var pool []priority.Claim
		for _, i := range ok[[]int](t)(priority.Rank(p, 7, l)) {
			if ok[int](t)(priority.ClassOf(p, l[i])) >= p.Pool {
				pool = append(pool, l[i])
			}
		}
		left := [2]int{}
		for _, c := range pool {
			left[bit(c.Newcomer)]++
		}
		for place, c := range pool {
			if left[0] == 0 || left[1] == 0 {
				break
			}
			exact++
			is(t, fmt.Sprint("a newcomer has the place ", place, " of ", p), c.Newcomer, place%p.Of < p.For)
			left[bit(c.Newcomer)]--
		}
	}
	is(t, fmt.Sprint("there are some places: ", exact), exact > 2000, true)
}

// P5.5: no claim is behind one before which it comes, unless the share puts it there.
func TestBehindByShare(t *testing.T) {
	x := noise(61)
	shares := 0
	for range 500 {
		p, l := x.someProgram(), x.someClaims(x.next(20))
		order, why := ok[[]int](t)(priority.Rank(p, 7, l)), ok[[]string](t)(priority.Why(p, 7, l))
		inPool := func(i int) bool { return ok[int](t)(priority.ClassOf(p, l[i])) >= p.Pool }
		for place, i := range order {
			for _, j := range order[:place] {
				if ok[int](t)(priority.Compare(p, l[i], l[j])) < 0 {
					shares++
					is(t, "only a newcomer and another one of the pool change their places", inPool(i) && inPool(j) && l[i].Newcomer != l[j].Newcomer, true)
				}
			}
			if place > 0 && why[place-1] != "share" {
				is(t, fmt.Sprint("behind by ", why[place-1]), ok[int](t)(priority.Compare(p, l[order[place-1]], l[i])) <= 0, true)
			}
		}
	}
	is(t, fmt.Sprint("there are some: ", shares), shares > 500, true)
}
