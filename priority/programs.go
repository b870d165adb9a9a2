package priority

import (
	"cmp"
	"slices"

	"turnround/api"
	"turnround/check"
	"turnround/lists"
)

// The operations of conditions.
const (
	equalOp   = "="
	lessOp    = "<"
	greaterOp = ">"
)

const published = `class historic when historic=1 retimed=0 by days- seats-
class retimed when historic=1 by days- seats-
class yearround when yearround=1 by days- seats- distance-
class others by days- seats- distance-
pool 2 share 1 of 2
`

// standing is where a program alone puts a claim: the index of its class, and the facts of the keys of this class, which are negative where they are sorted downwards.
type standing struct {
	class int
	by    []int
}

// CheckProgram returns the first error of a program, or OK.
func CheckProgram(p Program) api.Errno {
	return check.First(
		check.Unless(len(p.Classes) > 0, api.ErrEmpty),
		checkClasses(p.Classes),
		check.Range(p.Pool, 0, len(p.Classes)),
		check.Range(p.Of, 1, MaxShare),
		check.Range(p.For, 0, p.Of),
	)
}

// ClassOf returns the index of the class of a claim.
func ClassOf(p Program, c Claim) (int, api.Errno) {
	if e := check.First(CheckProgram(p), CheckClaim(c)); e != api.OK {
		return 0, e
	}
	return classOf(p, valuesOf(c)), api.OK
}

// Compare compares two claims by a program, without the lot and the share.
func Compare(p Program, a, b Claim) (int, api.Errno) {
	if e := check.First(CheckProgram(p), CheckClaim(a), CheckClaim(b)); e != api.OK {
		return 0, e
	}
	return standingOf(p, a).compare(standingOf(p, b)), api.OK
}

// Default returns the program that the office publishes.
func Default() Program {
	p, _, _ := Parse(published)
	return p
}

func checkClasses(classes []Class) api.Errno {
	return check.Named(classes, MaxClasses, func(c Class) string { return c.Name }, checkClass)
}

func checkClass(c Class) api.Errno {
	return check.First(
		check.Name(c.Name),
		check.List(c.When, MaxTests, checkTest),
		check.Named(c.By, MaxKeys, func(k Key) string { return k.Fact }, func(k Key) api.Errno { return checkFact(k.Fact) }),
	)
}

func checkTest(t Test) api.Errno {
	return check.First(
		checkFact(t.Fact),
		check.Unless(t.Op == equalOp || t.Op == lessOp || t.Op == greaterOp, api.ErrKind),
		check.Range(t.Value, 0, api.MaxNumber),
	)
}

// classOf returns the index of the class of a claim with these facts, or the number of classes if there is none.
func classOf(p Program, values map[string]int) int {
search:
	for i, class := range p.Classes {
		for _, t := range class.When {
			if !holds(t, values) {
				continue search
			}
		}
		return i
	}
	return len(p.Classes)
}

func standingOf(p Program, c Claim) standing {
	values := valuesOf(c)
	s := standing{class: classOf(p, values)}
	if s.class < len(p.Classes) {
		s.by = lists.Transform(p.Classes[s.class].By, func(k Key) int {
			if k.Down {
				return -values[k.Fact]
			}
			return values[k.Fact]
		})
	}
	return s
}

// compare returns -1 if the first one comes before the second one, 1 if it is the other way round, and 0 otherwise.
func (a standing) compare(b standing) int {
	return cmp.Or(cmp.Compare(a.class, b.class), slices.Compare(a.by, b.by))
}
