package priority_test

import (
	"fmt"
	"regexp"
	"slices"
	"strconv"
	"strings"

	"turnround/api"
	"turnround/priority"
)

// The definitions of the chapter, word by word and without haste.

// factOf returns the value of a fact of a claim.
func factOf(c priority.Claim, name string) int {
	q := c.Request
	switch name {
	case "historic":
		return bit(c.Historic)
	case "retimed":
		return bit(c.Retimed)
	case "newcomer":
		return bit(c.Newcomer)
	case "yearround":
		return bit(c.Yearround)
	case "days":
		n := 0
		for day := q.Period.From; day <= q.Period.To; day++ {
			n += q.Period.Days >> ((day + 5) % 7) & 1
		}
		return n
	case "seats":
		return q.Seats
	case "size":
		return q.Size
	case "noise":
		return q.Noise
	case "distance":
		return c.Distance
	case "minute":
		return q.Minute
	}
	panic("no fact " + name)
}

func bit(is bool) int {
	if is {
		return 1
	}
	return 0
}

func holds(c priority.Claim, t priority.Test) bool {
	n := factOf(c, t.Fact)
	return t.Op == "=" && n == t.Value || t.Op == "<" && n < t.Value || t.Op == ">" && n > t.Value
}

func classOf(p priority.Program, c priority.Claim) int {
	i := slices.IndexFunc(p.Classes, func(k priority.Class) bool {
		return !slices.ContainsFunc(k.When, func(t priority.Test) bool { return !holds(c, t) })
	})
	if i < 0 {
		return len(p.Classes)
	}
	return i
}

// keysOf returns the keys of the class of a claim.
func keysOf(p priority.Program, c priority.Claim) []priority.Key {
	if i := classOf(p, c); i < len(p.Classes) {
		return p.Classes[i].By
	}
	return nil
}

// firstKey returns the first key in whose fact two claims of one class differ.
func firstKey(p priority.Program, a, b priority.Claim) (priority.Key, bool) {
	for _, k := range keysOf(p, a) {
		if factOf(a, k.Fact) != factOf(b, k.Fact) {
			return k, true
		}
	}
	return priority.Key{}, false
}

// comesBefore reports whether a claim comes before another one.
func comesBefore(p priority.Program, a, b priority.Claim) bool {
	if i, j := classOf(p, a), classOf(p, b); i != j {
		return i < j
	}
	k, found := firstKey(p, a, b)
	if !found {
		return false
	}
	if k.Down {
		return factOf(a, k.Fact) > factOf(b, k.Fact)
	}
	return factOf(a, k.Fact) < factOf(b, k.Fact)
}

// drawn returns the permutation of n elements by a key.
func drawn(key, n int) []int {
	var l []int
	for i := range n {
		l = append(l, i)
	}
	x := uint64(key)
	for i := n - 1; i >= 1; i-- {
		x = 48271 * x % 2147483647
		j := x % uint64(i+1)
		l[i], l[j] = l[j], l[i]
	}
	return l
}

func lotsOf(key int, all []priority.Claim) []int {
	var lots []int
	for _, c := range all {
		number := 0
		for _, other := range all {
			if other.Request.Name < c.Request.Name {
				number++
			}
		}
		lots = append(lots, drawn(key, len(all))[number])
	}
	return lots
}

// baseOf takes one claim after the other: of those before which no other one comes that with the least lot.
func baseOf(p priority.Program, key int, all []priority.Claim) []int {
	lots := lotsOf(key, all)
	var base []int
	for len(base) < len(all) {
		next := -1
		for i, c := range all {
			isLater := func(j int) bool { return !slices.Contains(base, j) && comesBefore(p, all[j], c) }
			later := false
			for j := range all {
				later = later || isLater(j)
			}
			if !later && !slices.Contains(base, i) && (next < 0 || lots[i] < lots[next]) {
				next = i
			}
		}
		base = append(base, next)
	}
	return base
}

// interleaved fills one place after the other from two lists.
func interleaved(of, places int, newcomers []bool) []int {
	var new, other, order []int
	for i, is := range newcomers {
		if is {
			new = append(new, i)
		} else {
			other = append(other, i)
		}
	}
	for i := range newcomers {
		fromNew := i%of < places && len(new) > 0 || len(other) == 0
		if fromNew {
			order, new = append(order, new[0]), new[1:]
		} else {
			order, other = append(order, other[0]), other[1:]
		}
	}
	return order
}

func orderOf(p priority.Program, key int, all []priority.Claim) []int {
	var order, rest []int
	var newcomers []bool
	for _, i := range baseOf(p, key, all) {
		if classOf(p, all[i]) < p.Pool {
			order = append(order, i)
		} else {
			rest = append(rest, i)
			newcomers = append(newcomers, all[i].Newcomer)
		}
	}
	for _, at := range interleaved(p.Of, p.For, newcomers) {
		order = append(order, rest[at])
	}
	return order
}

func reasonsOf(p priority.Program, key int, all []priority.Claim) []string {
	base, order := baseOf(p, key, all), orderOf(p, key, all)
	var reasons []string
	for place := 1; place < len(order); place++ {
		before, behind := order[place-1], order[place]
		k, differ := firstKey(p, all[before], all[behind])
		switch {
		case slices.Index(base, behind) < slices.Index(base, before):
			reasons = append(reasons, "share")
		case classOf(p, all[before]) != classOf(p, all[behind]):
			reasons = append(reasons, "class")
		case differ:
			reasons = append(reasons, k.Fact)
		default:
			reasons = append(reasons, "lot")
		}
	}
	return reasons
}

func printed(p priority.Program) string {
	s := ""
	for _, c := range p.Classes {
		s += "class " + c.Name
		if len(c.When) > 0 {
			s += " when"
		}
		for _, t := range c.When {
			s += fmt.Sprintf(" %s%s%d", t.Fact, t.Op, t.Value)
		}
		if len(c.By) > 0 {
			s += " by"
		}
		for _, k := range c.By {
			s += " " + k.Fact + map[bool]string{false: "+", true: "-"}[k.Down]
		}
		s += "\n"
	}
	return s + fmt.Sprintf("pool %d share %d of %d\n", p.Pool, p.For, p.Of)
}

const (
	numberForm = `(?:0|[1-9][0-9]{0,8})`
	testForm   = `[^ \n=<>]*[=<>]` + numberForm
	keyForm    = `[^ \n]*[+-]`
)

var (
	classForm = regexp.MustCompile(`^class ([^ \n]+)(?: when((?: ` + testForm + `)+))?(?: by((?: ` + keyForm + `)+))?\n$`)
	poolForm  = regexp.MustCompile(`^pool (` + numberForm + `) share (` + numberForm + `) of (` + numberForm + `)\n$`)
	nameForm  = regexp.MustCompile(`^[A-Za-z][A-Za-z0-9_]{0,23}$`)
	testParts = regexp.MustCompile(`^([^=<>]*)([=<>])(.*)$`)
)

// parsedClass returns the class of a line that has the form of one.
func parsedClass(parts []string) priority.Class {
	c := priority.Class{Name: parts[1]}
	for _, word := range strings.Split(parts[2], " ")[1:] {
		test := testParts.FindStringSubmatch(word)
		c.When = append(c.When, when(test[1], test[2], number(test[3])))
	}
	for _, word := range strings.Split(parts[3], " ")[1:] {
		c.By = append(c.By, priority.Key{Fact: word[:len(word)-1], Down: word[len(word)-1] == '-'})
	}
	return c
}

func number(s string) int {
	n, _ := strconv.Atoi(s)
	return n
}

// classError returns the error of a class.
func classError(c priority.Class) api.Errno {
	if !nameForm.MatchString(c.Name) {
		return api.ErrName
	}
	if len(c.When) > 8 {
		return api.ErrMany
	}
	for _, t := range c.When {
		if !slices.Contains(facts, t.Fact) {
			return api.ErrUnknown
		}
	}
	if len(c.By) > 8 {
		return api.ErrMany
	}
	var seen []string
	for _, k := range c.By {
		if !slices.Contains(facts, k.Fact) {
			return api.ErrUnknown
		}
		if slices.Contains(seen, k.Fact) {
			return api.ErrTwice
		}
		seen = append(seen, k.Fact)
	}
	return api.OK
}

// parsed returns what a string is parsed as.
func parsed(s string) (priority.Program, int, api.Errno) {
	var p, none priority.Program
	if len(s) > 4096 {
		return none, 0, api.ErrLong
	}
	ended := false
	lines := strings.SplitAfter(s, "\n")
	lines = slices.DeleteFunc(lines, func(line string) bool { return line == "" })
	for at, line := range lines {
		class, pool := classForm.FindStringSubmatch(line), poolForm.FindStringSubmatch(line)
		if ended || class == nil && pool == nil {
			return none, at, api.ErrSyntax
		}
		if pool != nil {
			ended = true
			p.Pool, p.For, p.Of = number(pool[1]), number(pool[2]), number(pool[3])
			if at == 0 {
				return none, at, api.ErrEmpty
			}
			if p.Pool > at || p.Of < 1 || p.Of > 100 || p.For > p.Of {
				return none, at, api.ErrRange
			}
			continue
		}
		if at == 16 {
			return none, at, api.ErrMany
		}
		c := parsedClass(class)
		if e := classError(c); e != api.OK {
			return none, at, e
		}
		if slices.ContainsFunc(p.Classes, func(before priority.Class) bool { return before.Name == c.Name }) {
			return none, at, api.ErrTwice
		}
		p.Classes = append(p.Classes, c)
	}
	if !ended {
		return none, len(lines), api.ErrTorn
	}
	return p, 0, api.OK
}

// someClaims returns n claims that differ little, in any order of their names.
func (x *noise) someClaims(n int) []priority.Claim {
	var all []priority.Claim
	for i := range n {
		c := claim(fmt.Sprint(pick(x, "a", "B", "c_"), i))
		c.Historic, c.Retimed, c.Newcomer, c.Yearround = x.next(3) == 0, x.next(3) == 0, x.next(2) == 0, x.next(3) == 0
		c.Distance = pick(x, 0, 900, 20000)
		c.Request.Period = api.Period{From: 8900, To: 8900 + x.next(9), Days: pick(x, 127, 31, 96, 1+x.next(127))}
		c.Request.Seats = pick(x, 0, 100, 180, 999)
		c.Request.Size = pick(x, 1, 4, 9)
		c.Request.Noise = pick(x, 0, 7, 99)
		c.Request.Minute = pick(x, 0, 600, 1439)
		all = append(all, c)
	}
	return shuffle(x, all)
}

// someProgram returns a program without error.
func (x *noise) someProgram() priority.Program {
	var p priority.Program
	for i := range 1 + x.next(pick(x, 3, 5, 16)) {
		c := class(fmt.Sprint(pick(x, "k", "by", "when", "class"), i), nil)
		for range x.next(pick(x, 2, 3, 9)) {
			fact := pick(x, facts...)
			value := pick(x, 0, 1, 1, 7, 100, 600, 900, x.next(1000000000), 999999999)
			c.When = append(c.When, when(fact, pick(x, ops...), value))
		}
		for _, fact := range shuffle(x, facts)[:x.next(pick(x, 2, 4, 9))] {
			c.By = append(c.By, priority.Key{Fact: fact, Down: x.next(2) == 0})
		}
		p.Classes = append(p.Classes, c)
	}
	p.Pool = x.next(len(p.Classes) + 1)
	p.Of = pick(x, 1, 2, 3, 100, 1+x.next(100))
	p.For = x.next(p.Of + 1)
	return p
}
