package priority_test

import (
	"fmt"
	"slices"
	"strings"
	"testing"

	"turnround/api"
	"turnround/priority"
)

// goodPrograms has programs on the edges of what is permitted, with their strings.
func goodPrograms() []bad[priority.Program] {
	var all []bad[priority.Program]
	add := func(s string, p priority.Program) { all = append(all, bad[priority.Program]{s, p, api.OK}) }
	add(published, office())
	add("class a\npool 0 share 0 of 1\n", program(0, class("a", nil)))
	add("class a\npool 1 share 1 of 1\n", sharing(program(1, class("a", nil)), 1, 1))
	add("class a\npool 0 share 100 of 100\n", sharing(program(0, class("a", nil)), 100, 100))
	add("class a\npool 0 share 0 of 100\n", sharing(program(0, class("a", nil)), 0, 100))
	for _, s := range append(names, "class", "pool", "when", "by", "share", "of", "historic", "seats") {
		add("class "+s+"\npool 0 share 0 of 1\n", program(0, class(s, nil)))
		add("class "+s+" when seats=1\npool 0 share 0 of 1\n", program(0, class(s, list(when("seats", "=", 1)))))
		add("class "+s+" by seats-\npool 0 share 0 of 1\n", program(0, class(s, nil, down("seats"))))
	}
	add("class a\nclass A\npool 0 share 0 of 1\n", program(0, class("a", nil), class("A", nil)))
	for _, name := range facts {
		for _, op := range ops {
			for _, n := range []int{0, 1, 10, 999999999} {
				add(fmt.Sprint("class a when ", name, op, n, "\npool 0 share 0 of 1\n"), program(0, class("a", list(when(name, op, n)))))
			}
		}
		add("class a by "+name+"+\npool 0 share 0 of 1\n", program(0, class("a", nil, up(name))))
		add("class a by "+name+"-\npool 0 share 0 of 1\n", program(0, class("a", nil, down(name))))
	}
	add("class a when seats=7 seats=7 seats<7\npool 0 share 0 of 1\n", program(0, class("a", list(when("seats", "=", 7), when("seats", "=", 7), when("seats", "<", 7)))))
	add("class a when"+strings.Repeat(" seats>1", 8)+" by historic+ retimed- newcomer+ yearround- days+ seats- size+ noise-\npool 0 share 0 of 1\n",
		program(0, class("a", slices.Repeat(list(when("seats", ">", 1)), 8), up("historic"), down("retimed"), up("newcomer"), down("yearround"), up("days"), down("seats"), up("size"), down("noise"))))
	s := ""
	for i := range 16 {
		s += fmt.Sprint("class k", i, "\n")
	}
	add(s+"pool 16 share 0 of 1\n", program(16, classes(16)...))
	return all
}

// P5.2: the errors of programs, in their order.
func TestCheckProgram(t *testing.T) {
	for _, x := range goodPrograms() {
		is(t, "CheckProgram of "+x.what, priority.CheckProgram(x.value), api.OK)
	}
	for _, x := range badPrograms() {
		is(t, "CheckProgram: "+x.what, priority.CheckProgram(x.value), x.e)
	}
}

// P5.2: the strings of programs, and what they are parsed as.
func TestStrings(t *testing.T) {
	for _, x := range goodPrograms() {
		s, e := priority.Print(x.value)
		is(t, "Print "+x.what, e, api.OK)
		is(t, "Print", s, x.what)
		p, at, e := priority.Parse(x.what)
		is(t, "Parse "+x.what, e, api.OK)
		is(t, "index of Parse "+x.what, at, 0)
		isProgram(t, "Parse "+x.what, p, x.value)
	}
}

// P5.2: a program with an error has no string.
func TestNoStrings(t *testing.T) {
	for _, x := range badPrograms() {
		s, e := priority.Print(x.value)
		is(t, "Print: "+x.what, e, x.e)
		is(t, "Print: "+x.what, s, "")
	}
}

// P5.2: a program has a string also where that is longer than what is parsed.
func TestLongStrings(t *testing.T) {
	p := longest()
	s := ok[string](t)(priority.Print(p))
	is(t, "the longest string", s, printed(p))
	is(t, "it is too long", len(s) > 4096, true)
	isWrong(t, s, 0, api.ErrLong)
}

// longest is a program with as many words as possible.
func longest() priority.Program {
	var all []priority.Class
	for i := range 16 {
		name := fmt.Sprintf("%02d", i)
		all = append(all, class(strings.Repeat("x", 22)+name, slices.Repeat(list(when("yearround", "=", 999999999)), 8),
			up("historic"), down("retimed"), up("newcomer"), down("yearround"), up("days"), down("minute"), up("size"), down("distance")))
	}
	return sharing(program(16, all...), 100, 100)
}

// isWrong checks that a string is no program, from a line on.
func isWrong(t *testing.T, s string, at int, e api.Errno) {
	t.Helper()
	what := fmt.Sprintf("Parse %q", s[:min(len(s), 200)])
	p, gotAt, gotE := priority.Parse(s)
	is(t, "index of "+what, gotAt, at)
	is(t, "error of "+what, gotE, e)
	isProgram(t, what, p, priority.Program{})
}

// P5.2: a string of more than 4096 bytes is too long, whatever it has.
func TestLength(t *testing.T) {
	for _, s := range []string{"", published, "x"} {
		isWrong(t, s+strings.Repeat("x", 4097-len(s)), 0, api.ErrLong)
		isWrong(t, s+strings.Repeat("\n", 100000), 0, api.ErrLong)
	}
	isWrong(t, published+strings.Repeat("x", 4096-len(published)), 5, api.ErrSyntax)
	isWrong(t, strings.Repeat("\n", 4096), 0, api.ErrSyntax)
	isWrong(t, strings.Repeat("\n", 4097), 0, api.ErrLong)
	rest := "\npool 0 share 0 of 1\n"
	isWrong(t, "class "+strings.Repeat("x", 4096-6-len(rest))+rest, 0, api.ErrName)
}

// wrongClasses has lines that do not have the form of a class.
var wrongClasses = []string{
	"", " ", "class", "class ", "class  ", " class a", "class  a", "class a ", "class a  ", "classa", "Class a", "CLASS a", "classes a", "klass a", "clas a", "class\ta", "\xffclass a", "\x00", "#", "when seats=1", "by seats-", "share 1 of 2",
	"class a b", "class a class b", "class a pool", "class a WHEN seats=1", "class a seats=1", "class a seats-", "class a BY seats-", "class a of 1",
	"class a when", "class a when ", "class a by", "class a by ", "class a when by", "class a when by seats-", "class a when seats=1 by", "class a when seats=1 by ", "class a  when seats=1", "class a when  seats=1", "class a when seats=1 ", "class a when seats=1  by seats-", "class a when seats=1 by  seats-", "class a when seats=1 by seats- ",
	"class a when when", "class a when when seats=1", "class a when seats=1 when seats=1", "class a by seats- when seats=1", "class a by by", "class a by by seats-", "class a by seats- by", "class a by seats- by size+", "class a when seats=1 by seats- by size+", "class a when seats=1 seats-", "class a by seats- seats=1",
	"class a when seats", "class a when seats=", "class a when =", "class a when <", "class a when seats!1", "class a when seats1", "class a when seats==1", "class a when seats<=1", "class a when seats>=1", "class a when seats=<1", "class a when seats=1=1", "class a when seats=1<", "class a when seats=-1", "class a when seats=+1", "class a when seats=01", "class a when seats=00", "class a when seats=1000000000", "class a when seats=0000000001", "class a when seats=99999999999999999999", "class a when seats=1_0", "class a when seats=0x1", "class a when seats=1.0", "class a when seats=1e1", "class a when seats=a", "class a when seats=1a", "class a when seats=\xff", "class a when seats=١", "class a when seats= 1", "class a when seats =1", "class a when seats=1\t", "class a when seats=1\r", "class a when seats=1,size=1", "class a when seats=1+",
	"class a by seats", "class a by seats*", "class a by seats- size", "class a by seats -", "class a by seats-\xff", "class a by seats-ä", "class a by seats−", "class a by seats-\r", "class a by -seats", "class a by +seats", "class a by seats-1", "class a by \xff",
	"class - by seats", "class a when day=01", "class 1 when seats", "class a by day", "class a by seats- seats- x", "class a by day- seats",
	"class a when" + strings.Repeat(" seats=1", 8) + " seats", "class a by" + strings.Repeat(" seats-", 9) + " seats",
}

// wrongPools has lines that do not have the form of a pool.
var wrongPools = []string{
	"pool", "pool ", "pool 0", "pool 0 share", "pool 0 share 0", "pool 0 share 0 of", "pool 0 share 0 of ", "pool 0 share 0 of 1 ", "pool  0 share 0 of 1", "pool 0  share 0 of 1", "pool 0 share  0 of 1", "pool 0 share 0  of 1", "pool 0 share 0 of  1", " pool 0 share 0 of 1", "pool 0 share 0 of 1 2", "pool 0 share 0 of 1 pool", "pool 0 0 of 1", "pool 0 share 0 1", "pool 0 0 1", "pool share 0 of 1",
	"Pool 0 share 0 of 1", "pools 0 share 0 of 1", "pool0 share 0 of 1", "poo 0 share 0 of 1", "pool 0 Share 0 of 1", "pool 0 shares 0 of 1", "pool 0 share 0 Of 1", "pool 0 share 0 off 1", "pool 0 of 0 share 1",
	"pool a share 0 of 1", "pool 0 share a of 1", "pool 0 share 0 of a", "pool 00 share 0 of 1", "pool 0 share 00 of 1", "pool 0 share 0 of 01", "pool -1 share 0 of 1", "pool 0 share -1 of 1", "pool 0 share 0 of -1", "pool +0 share 0 of 1", "pool -0 share 0 of 1", "pool 0 share +0 of 1", "pool 0 share 0 of +1", "pool 1000000000 share 0 of 1", "pool 0 share 1000000000 of 1", "pool 0 share 0 of 1000000000", "pool 0 share 0 of 99999999999999999999", "pool 0 share 0 of 1\r", "pool 0 share 0 of 1\t", "pool\t0 share 0 of 1", "pool 0 share 0 of ١", "pool 0 share 0 of \xff", "pool 0 share 0 of 1.", "pool 0 share 1 of a", "pool 9 share 0 of 0 0",
}

// P5.2: a line that has no form is wrong wherever it stands, before all other errors.
func TestWrongForms(t *testing.T) {
	for _, line := range append(wrongClasses, wrongPools...) {
		for n := range 3 {
			text := ok[string](t)(priority.Print(program(0, classes(n+1)...)))
			text = strings.TrimSuffix(text, "pool 0 share 0 of 1\n")
			isWrong(t, text+line+"\n", n+1, api.ErrSyntax)
			isWrong(t, text+line+"\n"+published, n+1, api.ErrSyntax)
			isWrong(t, text+line+"\nx", n+1, api.ErrSyntax)
		}
		isWrong(t, line+"\n", 0, api.ErrSyntax)
		isWrong(t, published+line+"\n", 5, api.ErrSyntax)
		if line != "" {
			isWrong(t, line, 0, api.ErrSyntax)
		}
		full := strings.TrimSuffix(ok[string](t)(priority.Print(program(0, classes(16)...))), "pool 0 share 0 of 1\n")
		isWrong(t, full+line+"\n", 16, api.ErrSyntax)
	}
}

// P5.2: a line without a line feed is wrong, and a text without a pool is torn behind its last line.
func TestTorn(t *testing.T) {
	isWrong(t, "", 0, api.ErrTorn)
	text := ""
	for n := range 17 {
		isWrong(t, text, n, api.ErrTorn)
		isWrong(t, text+"x", n, api.ErrSyntax)
		isWrong(t, text+"class z", n, api.ErrSyntax)
		isWrong(t, text+"pool 0 share 0 of 1", n, api.ErrSyntax)
		isWrong(t, text+"pool 99 share 0 of 1", n, api.ErrSyntax)
		text += fmt.Sprint("class k", n, "\n")
	}
	isWrong(t, text, 16, api.ErrMany)
	for n := range len(published) {
		_, at, e := priority.Parse(published[:n])
		want := api.ErrSyntax
		if n == 0 || published[n-1] == '\n' {
			want = api.ErrTorn
		}
		is(t, fmt.Sprint("Parse of the first ", n, " bytes"), e, want)
		is(t, fmt.Sprint("index of the first ", n, " bytes"), at, strings.Count(published[:n], "\n"))
	}
}

// P5.2: a class with its form has the errors of a class, in their order.
func TestWrongClasses(t *testing.T) {
	for line, e := range map[string]api.Errno{
		"class 9": api.ErrName, "class -": api.ErrName, "class _a": api.ErrName, "class a\r": api.ErrName, "class a\t": api.ErrName, "class \xff": api.ErrName, "class ä": api.ErrName, "class a=1": api.ErrName,
		"class " + strings.Repeat("x", 25):                     api.ErrName,
		"class 9 when day=1 by day-":                           api.ErrName,
		"class 9 when" + strings.Repeat(" seats=1", 9):         api.ErrName,
		"class a when" + strings.Repeat(" seats=1", 9):         api.ErrMany,
		"class a when" + strings.Repeat(" day=1", 9):           api.ErrMany,
		"class a when day=1":                                   api.ErrUnknown,
		"class a when =1":                                      api.ErrUnknown,
		"class a when >0 by -":                                 api.ErrUnknown,
		"class a when by=1":                                    api.ErrUnknown,
		"class a when Seats=1":                                 api.ErrUnknown,
		"class a when seats-=1":                                api.ErrUnknown,
		"class a when \xff=1":                                  api.ErrUnknown,
		"class a when seats=1 day=1 by seats- seats-":          api.ErrUnknown,
		"class a when day=1 by" + strings.Repeat(" seats-", 9): api.ErrUnknown,
		"class a by" + strings.Repeat(" seats-", 9):            api.ErrMany,
		"class a by" + strings.Repeat(" day-", 9):              api.ErrMany,
		"class a by day-":                                      api.ErrUnknown,
		"class a by -":                                         api.ErrUnknown,
		"class a by +":                                         api.ErrUnknown,
		"class a by seats+-":                                   api.ErrUnknown,
		"class a by seats--":                                   api.ErrUnknown,
		"class a by seats=1-":                                  api.ErrUnknown,
		"class a by by-":                                       api.ErrUnknown,
		"class a by \xff-":                                     api.ErrUnknown,
		"class a by ä+":                                        api.ErrUnknown,
		"class a by seats- days+ day- day-":                    api.ErrUnknown,
		"class a by seats- seats-":                             api.ErrTwice,
		"class a by seats- seats+":                             api.ErrTwice,
		"class a by seats- seats- day-":                        api.ErrTwice,
		"class a when seats=1 by seats- days+ size- days+":     api.ErrTwice,
		"class k0":              api.ErrTwice,
		"class k0 when seats=1": api.ErrTwice,
		"class k0 by day-":      api.ErrUnknown,
		"class k0 by seats- seats+ when=1 by day=1-": api.ErrSyntax,
	} {
		isWrong(t, "class k0\n"+line+"\n", 1, e)
		isWrong(t, "class k0\nclass k1\n"+line+"\n"+line+"\nx", 2, e)
		full := strings.TrimSuffix(ok[string](t)(priority.Print(program(0, classes(16)...))), "pool 0 share 0 of 1\n")
		if e != api.ErrSyntax {
			e = api.ErrMany
		}
		isWrong(t, full+line+"\n", 16, e)
	}
	isWrong(t, published[:strings.Index(published, "pool")]+"class yearround\n", 4, api.ErrTwice)
}

// P5.2: a pool has a class before it, and its numbers have their ranges; nothing follows it.
func TestWrongPools(t *testing.T) {
	isWrong(t, "pool 0 share 0 of 1\n", 0, api.ErrEmpty)
	isWrong(t, "pool 1 share 2 of 0\n", 0, api.ErrEmpty)
	isWrong(t, "pool 0 share 0 of 1\nclass a\n", 0, api.ErrEmpty)
	for _, line := range []string{"pool 3 share 0 of 1", "pool 999999999 share 0 of 1", "pool 0 share 2 of 1", "pool 0 share 0 of 0", "pool 0 share 1 of 0", "pool 0 share 0 of 101", "pool 0 share 101 of 101", "pool 0 share 101 of 100", "pool 0 share 999999999 of 999999999", "pool 16 share 0 of 1"} {
		isWrong(t, "class a\nclass b\n"+line+"\n", 2, api.ErrRange)
		isWrong(t, "class a\nclass b\n"+line+"\nx", 2, api.ErrRange)
	}
	for _, more := range []string{"\n", "x", " ", "x\n", "class z\n", "class k0\n", "class z", "pool 0 share 0 of 1\n", published} {
		isWrong(t, "class k0\npool 1 share 0 of 1\n"+more, 2, api.ErrSyntax)
		isWrong(t, published+more, 5, api.ErrSyntax)
	}
}

// P5.2: the fifth example.
func TestExampleOfErrors(t *testing.T) {
	isWrong(t, "class a by seats\n", 0, api.ErrSyntax)
	isWrong(t, "class a by seats-\n", 1, api.ErrTorn)
}

// P5.2: the program that the office publishes.
func TestDefault(t *testing.T) {
	isProgram(t, "Default", priority.Default(), office())
	is(t, "its string", ok[string](t)(priority.Print(priority.Default())), published)
}

// P5.2: the class of a claim is the first one all of whose conditions hold.
func TestClassOf(t *testing.T) {
	two := program(0, class("a", list(when("seats", ">", 50), when("seats", "<", 100))), class("b", list(when("seats", "=", 100))))
	for _, x := range []struct {
		what string
		p    priority.Program
		c    priority.Claim
		want int
	}{
		{"historic", office(), claim("x", historic), 0},
		{"retimed", office(), claim("x", historic, retimed), 1},
		{"retimed alone", office(), claim("x", retimed), 3},
		{"yearround", office(), claim("x", yearround), 2},
		{"historic and yearround", office(), claim("x", historic, yearround), 0},
		{"without any fact", office(), claim("x"), 3},
		{"a newcomer", office(), claim("x", newcomer), 3},
		{"both conditions", two, claim("x", withSeats(99)), 0},
		{"the first condition alone", two, claim("x", withSeats(100)), 1},
		{"the second condition alone", two, claim("x", withSeats(50)), 2},
		{"no condition", two, claim("x", withSeats(101)), 2},
		{"no class", program(0, class("a", list(when("seats", "=", 5)))), claim("x"), 1},
		{"two classes for all", program(0, classes(2)...), claim("x"), 0},
		{"the last one of 16", program(0, numbered()...), claim("x", withSeats(15)), 15},
		{"none of 16", program(0, numbered()...), claim("x", withSeats(16)), 16},
	} {
		got, e := priority.ClassOf(x.p, x.c)
		is(t, "ClassOf: "+x.what, e, api.OK)
		is(t, "ClassOf: "+x.what, got, x.want)
	}
}

// numbered returns 16 classes, each for the claims with as many seats as its index says.
func numbered() []priority.Class {
	all := classes(16)
	for i := range all {
		all[i].When = list(when("seats", "=", i))
	}
	return all
}

// P5.2: the errors of ClassOf, in their order.
func TestNoClassOf(t *testing.T) {
	refused := func(what string, p priority.Program, c priority.Claim, e api.Errno) {
		t.Helper()
		got, gotE := priority.ClassOf(p, c)
		is(t, "ClassOf: "+what, gotE, e)
		is(t, "ClassOf: "+what, got, 0)
	}
	for _, x := range badPrograms() {
		refused(x.what, x.value, claim("x"), x.e)
		refused(x.what+" and more", x.value, priority.Claim{}, x.e)
	}
	for _, x := range badClaims() {
		refused(x.what, office(), x.value, x.e)
	}
}

// P5.2: a claim comes before another one by its class, or by the first key that differs.
func TestCompare(t *testing.T) {
	keys := program(0, class("a", nil, up("minute"), down("seats"), up("size")))
	none := program(1, class("a", list(when("seats", "=", 5)), down("seats")))
	early := withRequest(func(q *api.Request) { q.Minute = 599 })
	small := withRequest(func(q *api.Request) { q.Size = 1 })
	for _, x := range []struct {
		what string
		p    priority.Program
		a, b priority.Claim
		want int
	}{
		{"one claim", office(), claim("x"), claim("x"), 0},
		{"another name", office(), claim("x"), claim("y"), 0},
		{"another carrier, kind, partner and terminal", office(), claim("x"), claim("x", withRequest(func(q *api.Request) {
			q.Carrier, q.Kind, q.Partner, q.Terminal = "cd", "D", "near", "t1"
		})), 0},
		{"a lesser class", office(), claim("x", historic, withSeats(1)), claim("y"), -1},
		{"two classes apart", office(), claim("x", historic, withSeats(1)), claim("y", yearround), -1},
		{"more seats", office(), claim("x", withSeats(180)), claim("y", withSeats(150)), -1},
		{"more days", office(), claim("x", withPeriod(8900, 8906, 127), withSeats(1)), claim("y"), -1},
		{"more days in a shorter period", office(), claim("x"), claim("y", withPeriod(8900, 8910, 31), withSeats(1)), 1},
		{"as many days in a longer period", office(), claim("x"), claim("y", withPeriod(8900, 8906, 63)), 0},
		{"a newcomer", office(), claim("x"), claim("y", newcomer), 0},
		{"further", office(), claim("x", withDistance(901)), claim("y"), -1},
		{"further, both historic", office(), claim("x", historic, withDistance(901)), claim("y", historic), 0},
		{"a fact that is no key", office(), claim("x"), claim("y", small), 0},
		{"earlier", keys, claim("x", early, withSeats(1)), claim("y"), -1},
		{"more seats at one minute", keys, claim("x", withSeats(101)), claim("y", small), -1},
		{"smaller with the same seats", keys, claim("x", small), claim("y"), -1},
		{"more seats and later", keys, claim("x", withSeats(101)), claim("y", early), 1},
		{"without a class", none, claim("x", withSeats(1)), claim("y", withSeats(999)), 0},
		{"with a class", none, claim("x", withSeats(5)), claim("y", withSeats(999)), -1},
	} {
		got, e := priority.Compare(x.p, x.a, x.b)
		is(t, "Compare: "+x.what, e, api.OK)
		is(t, "Compare: "+x.what, got, x.want)
		got, e = priority.Compare(x.p, x.b, x.a)
		is(t, "Compare the other way round: "+x.what, e, api.OK)
		is(t, "Compare the other way round: "+x.what, got, -x.want)
	}
}

// P5.2: the errors of Compare, in their order.
func TestNoCompare(t *testing.T) {
	refused := func(what string, p priority.Program, a, b priority.Claim, e api.Errno) {
		t.Helper()
		got, gotE := priority.Compare(p, a, b)
		is(t, "Compare: "+what, gotE, e)
		is(t, "Compare: "+what, got, 0)
	}
	for _, x := range badPrograms() {
		refused(x.what, x.value, claim("x"), claim("y", historic), x.e)
		refused(x.what+" and more", x.value, priority.Claim{}, priority.Claim{}, x.e)
	}
	for _, x := range badClaims() {
		refused("first "+x.what, office(), x.value, claim("y", historic), x.e)
		refused("second "+x.what, office(), claim("y", historic), x.value, x.e)
		refused("first "+x.what+" and more", office(), x.value, claim("y", withDistance(-1)), x.e)
		refused("first unnamed, and "+x.what, office(), claim(""), x.value, api.ErrName)
	}
}

// P5.2: classes and comparisons are those of the definition.
func TestComparisonsOfModel(t *testing.T) {
	x := noise(52)
	var seen [3]int
	for n := range 1500 {
		p, l := x.someProgram(), x.someClaims(2)
		what := fmt.Sprint("of ", n, " ", p, l)
		is(t, "ClassOf "+what, ok[int](t)(priority.ClassOf(p, l[0])), classOf(p, l[0]))
		want := bit(comesBefore(p, l[1], l[0])) - bit(comesBefore(p, l[0], l[1]))
		is(t, "Compare "+what, ok[int](t)(priority.Compare(p, l[0], l[1])), want)
		seen[1+want]++
	}
	is(t, fmt.Sprint("there are some of each: ", seen), slices.Min(seen[:]) > 100, true)
}
