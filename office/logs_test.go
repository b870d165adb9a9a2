package office_test

import (
	"fmt"
	"slices"
	"strings"
	"testing"

	"turnround/api"
	"turnround/office"
)

// chapterLog is the log of the chapter's events, with places for the checksums.
const chapterLog = "1 enter e a 5 10 20 600#%s\n2 rule r a 7 15 20 660#%s\n3 follow f b r 8 15 20 700#%s\n4 reverse r 9#%s\n5 complain c e 10#%s\n6 decide c 11 1#%s\n"

// P10.4: the checksums of the chapter's examples.
func TestChecksums(t *testing.T) {
	// The body `11` has no form, but a log shows whether its checksum is right.
	for s, right := range map[string]string{"": "0000001", "1": "0000330", "11": "0092779"} {
		is(t, "the tests' own checksum of "+s, sum(s), right)
		isOutcome(t, "Recover of "+s, ofRecover(office.Recover(s+"#"+right+"\n")), outcome{e: api.ErrSyntax})
		for n := range 2000 {
			if other := fmt.Sprintf("%07d", n*5003%9999943); other != right {
				isOutcome(t, "Recover of "+s+" and "+other, ofRecover(office.Recover(s+"#"+other+"\n")), outcome{e: api.ErrCheck})
			}
		}
	}
	// The first one that is reduced: 281 times 92779 plus 49 is 26070948, less twice 9999943.
	isOutcome(t, "Recover of 111", ofRecover(office.Recover("111#6071062\n")), outcome{e: api.ErrSyntax})
}

// P10.4: Append writes the records as the chapter says, and Recover reads them.
func TestAppend(t *testing.T) {
	var sums []any
	for _, e := range chapter(6) {
		sums = append(sums, sum(body(e)))
	}
	want := fmt.Sprintf(chapterLog, sums...)
	log := ""
	for i, e := range chapter(6) {
		log = ok[string](t)(office.Append(log, e))
		is(t, fmt.Sprint("the log of ", i+1), strings.HasPrefix(want, log), true)
		isOutcome(t, fmt.Sprint("Recover of ", log), ofRecover(office.Recover(log)), outcome{events: chapter(i + 1), at: len(log)})
	}
	is(t, "the log of the chapter's events", log, want)
	isOutcome(t, "Recover of nothing", ofRecover(office.Recover("")), outcome{})
	// Events of a log need not be accepted.
	odd := numbered(reverse("unknown", 999999999), enter("e", "a", 0, 20, 10, 5000), decide("c", 0, 7), decide("c", 0, 7))
	log = logOf(odd...)
	isOutcome(t, "Recover of odd events", ofRecover(office.Recover(log)), outcome{events: odd, at: len(log)})
	next := changed(reverse("a", 5), func(e *api.Event) { e.Number = 5 })
	isOutcome(t, "Append to odd events", ofLog(office.Append(log, next)), outcome{log: log + "5 reverse a 5#" + sum("5 reverse a 5") + "\n"})
}

// P10.4: of the errors of Append the first one decides.
func TestFirstErrorOfAppend(t *testing.T) {
	events := list(
		fault{"no number", api.ErrRange, func(x *arguments) { x.e.Number = 0 }},
		fault{"no kind", api.ErrKind, func(x *arguments) { x.e.Kind = "5" }},
		fault{"no names", api.ErrShape, func(x *arguments) { x.e.Names = nil }},
		fault{"no name", api.ErrName, withName(1, "a b")},
		fault{"a large value", api.ErrRange, withValue(3, 1000000000)},
		fault{"a text", api.ErrForm, func(x *arguments) { x.e.Text = "x" }},
		fault{"the number of the last record", api.ErrOrder, func(x *arguments) { x.e.Number = 4 }},
		fault{"a number left out", api.ErrOrder, func(x *arguments) { x.e.Number = 6 }},
	)
	for _, log := range list(
		fault{"a long log", api.ErrLong, func(x *arguments) { x.log = strings.Repeat("x", 1000001) }},
		fault{"a log that is torn", api.ErrTorn, func(x *arguments) { x.log += "5" }},
		fault{"a log with a line that is none", api.ErrSyntax, func(x *arguments) { x.log += "\n" }},
		fault{"a log with a wrong checksum", api.ErrCheck, func(x *arguments) { x.log += "5 reverse a 5#0000001\n" }},
		fault{"a log without its first record", api.ErrOrder, func(x *arguments) { x.log = logOf(chapter(4)[1:]...) }},
	) {
		isFirstFault(t, "Append", example(), append(list(log), events...)...)
	}
	for n := 1; n <= 1000; n++ {
		want := api.ErrOrder
		if n == 5 {
			want = api.OK
		}
		_, e := office.Append(example().log, changed(reverse("a", 5), func(e *api.Event) { e.Number = n }))
		is(t, fmt.Sprint("Append of the number ", n), e, want)
	}
}

// thousand has 1000 events, the most that a log may have; they need not be accepted.
func thousand() []api.Event {
	var all []api.Event
	for i := range 1000 {
		all = append(all, changed(follow(strings.Repeat("x", 24), strings.Repeat("y", 24), strings.Repeat("z", 24), 999999999, 999999999, 0, i), func(e *api.Event) { e.Number = i + 1 }))
	}
	return all
}

// P10.4: a log has at most 1000 records, and none of them has the number 1001.
func TestLongestLog(t *testing.T) {
	all := thousand()
	log := logOf(all...)
	isOutcome(t, "Recover of 1000 records", ofRecover(office.Recover(log)), outcome{events: all, at: len(log)})
	for n, want := range map[int]api.Errno{1001: api.ErrSyntax, 1000: api.ErrOrder, 1: api.ErrOrder, 999: api.ErrOrder} {
		more := changed(all[0], func(e *api.Event) { e.Number = n })
		isOutcome(t, fmt.Sprint("Recover with a further record ", n), ofRecover(office.Recover(log+logOf(more))), outcome{events: all, at: len(log), e: want})
	}
	for n, want := range map[int]api.Errno{1001: api.ErrRange, 1000: api.ErrOrder, 1: api.ErrOrder} {
		more := changed(all[0], func(e *api.Event) { e.Number = n })
		isError(t, fmt.Sprint("Append of a further record ", n), ofLog(office.Append(log, more)), want)
	}
	longest := logOf(all[:999]...)
	isOutcome(t, "Append of the 1000th record", ofLog(office.Append(longest, all[999])), outcome{log: log})
}

// P10.4: a log of more than 1000000 bytes is too long, whatever it begins with.
func TestLongLogs(t *testing.T) {
	log := logOf(chapter(6)...)
	for _, filler := range []string{"x", "\n", "#", " ", "0"} {
		rest := strings.Repeat(filler, 1000000-len(log))
		want := api.ErrTorn
		if filler == "\n" {
			want = api.ErrSyntax
		}
		isOutcome(t, "Recover of 1000000 bytes", ofRecover(office.Recover(log+rest)), outcome{events: chapter(6), at: len(log), e: want})
		isOutcome(t, "Recover of 1000001 bytes", ofRecover(office.Recover(log+rest+filler)), outcome{e: api.ErrLong})
	}
	isOutcome(t, "Recover of 1000001 bytes alone", ofRecover(office.Recover(strings.Repeat("\n", 1000001))), outcome{e: api.ErrLong})
}

// P10.4: the error of each line that is no record, behind others.
func TestWrongLines(t *testing.T) {
	good := sealed("4 reverse r 9")
	for _, x := range []struct {
		what, line string
		e          api.Errno
	}{
		{"no line feed", good[:len(good)-1], api.ErrTorn},
		{"half a record", good[:7], api.ErrTorn},
		{"no line feed in what is no record", "###", api.ErrTorn},
		{"a blank without a line feed", " ", api.ErrTorn},
		{"an empty line", "\n", api.ErrSyntax},
		{"an empty line before a record", "\n" + good, api.ErrSyntax},
		{"no checksum", "4 reverse r 9\n", api.ErrSyntax},
		{"no digits", "4 reverse r 9#\n", api.ErrSyntax},
		{"six digits", "4 reverse r 9#" + sum("4 reverse r 9")[1:] + "\n", api.ErrSyntax},
		{"eight digits", "4 reverse r 9#0" + sum("4 reverse r 9") + "\n", api.ErrSyntax},
		{"no mark", "4 reverse r 9" + sum("4 reverse r 9") + "\n", api.ErrSyntax},
		{"another mark", "4 reverse r 9$" + sum("4 reverse r 9") + "\n", api.ErrSyntax},
		{"a mark too early", "4 reverse r #9" + sum("4 reverse r 9") + "\n", api.ErrSyntax},
		{"a digit that is none", "4 reverse r 9#" + sum("4 reverse r 9")[:6] + "x\n", api.ErrSyntax},
		{"a sign", "4 reverse r 9#-" + sum("4 reverse r 9")[1:] + "\n", api.ErrSyntax},
		{"a plus", "4 reverse r 9#+" + sum("4 reverse r 9")[1:] + "\n", api.ErrSyntax},
		{"a blank behind the checksum", good[:len(good)-1] + " \n", api.ErrSyntax},
		{"a carriage return", good[:len(good)-1] + "\r\n", api.ErrSyntax},
		{"seven digits alone", "0000001\n", api.ErrSyntax},
		{"the checksum of nothing", "#0000001\n", api.ErrSyntax},
		{"a wrong checksum of nothing", "#0000002\n", api.ErrCheck},
		{"a wrong checksum", "4 reverse r 9#0000000\n", api.ErrCheck},
		{"a wrong checksum of a wrong body", "4 reverse#0000000\n", api.ErrCheck},
		{"the checksum with the mark", "4 reverse r 9#" + sum("4 reverse r 9#") + "\n", api.ErrCheck},
		{"a wrong number and a wrong checksum", "7 reverse r 9#0000000\n", api.ErrCheck},
		{"two marks", sealed("4 reverse r 9#"), api.ErrSyntax},
		{"the number of the record before", sealed("3 reverse r 9"), api.ErrOrder},
		{"the first number again", sealed("1 reverse r 9"), api.ErrOrder},
		{"a number left out", sealed("5 reverse r 9"), api.ErrOrder},
		{"the last number", sealed("1000 reverse r 9"), api.ErrOrder},
	} {
		log := logOf(chapter(3)...)
		want := outcome{events: chapter(3), at: len(log), e: x.e}
		isOutcome(t, "Recover with "+x.what, ofRecover(office.Recover(log+x.line)), want)
		if x.e != api.ErrTorn {
			isOutcome(t, "Recover with more behind "+x.what, ofRecover(office.Recover(log+x.line+good+"x")), want)
		}
		if x.e != api.ErrOrder {
			isOutcome(t, "Recover of a log that begins with "+x.what, ofRecover(office.Recover(x.line)), outcome{e: x.e})
		}
	}
}

// P10.4: what is no body of an event, with the right checksum.
func TestWrongBodies(t *testing.T) {
	large, name := "1000000000", strings.Repeat("a", 25)
	for _, body := range []string{
		"", " ", "1", "1 ", "1 enter", "1 enter ", "1 e", "enter", "reverse r 9", "1 reverse", "1 reverse r", "1 reverse 9", "1 reverse r 9 9", "1 reverse r r 9",
		" 1 reverse r 9", "1 reverse r 9 ", "1  reverse r 9", "1 reverse  r 9", "1 reverse r  9", "1\treverse r 9", "1 reverse\tr 9", "1 reverse r 9\t", "1 reverse r 9\r", "1 reverse r 9#",
		"01 reverse r 9", "1 reverse r 09", "1 reverse r 00", "+1 reverse r 9", "-1 reverse r 9", "1 reverse r +9", "1 reverse r -9", "1 reverse r -0", "1 reverse r 9.", "1 reverse r 1e1", "1 reverse r 0x9", "1 reverse r 1_0", "1 reverse r \u0669",
		"0 reverse r 9", "1001 reverse r 9", "10000 reverse r 9", large + " reverse r 9", "1 reverse r " + large, "1 reverse r 0" + large[1:], "1 reverse r 99999999999999999999",
		"1 Reverse r 9", "1 note", "1 note r 9", "1 slot r 9 9", "1 \x00 r 9", "1 reverse 1 9", "1 reverse _ 9", "1 reverse r-s 9", "1 reverse " + name + " 9", "1 reverse \xff 9", "1 reverse é 9", "1 reverse r\x00 9",
		"1 enter e a 5 10 20", "1 enter e a 5 10 20 600 1", "1 enter e 5 10 20 600", "1 enter e a b 5 10 20 600", "1 rule e a 5 10 20", "1 follow e a 5 10 20 600", "1 follow e a b c 5 10 20 600", "1 follow e a b 5 10 20", "1 complain c 5", "1 complain c e 5 5", "1 decide c 5", "1 decide c 5 1 1", "1 decide c d 5 1",
		"1 enter e a 5 10 20 x", "1 enter e a x 10 20 600", "x enter e a 5 10 20 600", "1 decide c 5 01",
	} {
		isOutcome(t, "Recover of "+body, ofRecover(office.Recover(sealed(body))), outcome{e: api.ErrSyntax})
		for _, number := range []string{"2", "3"} {
			other := strings.Replace(body, "1", number, 1)
			log := logOf(chapter(1)...)
			if other != body {
				isOutcome(t, "Recover of "+other, ofRecover(office.Recover(log+sealed(other))), outcome{events: chapter(1), at: len(log), e: api.ErrSyntax})
			}
		}
	}
	for _, body := range []string{"1 reverse r 0", "1 reverse r 999999999", "1 reverse enter 5", "1 complain c c 100000", "1 decide none 0 999999999", "1 enter e a 5 20 10 1441", "1 follow e e e 0 0 0 0"} {
		l, at, e := office.Recover(sealed(body))
		is(t, "Recover of "+body, fmt.Sprint(len(l), at, e), fmt.Sprint(1, len(body)+9, api.OK))
	}
}

// P10.4: a log that is cut off at any byte is recovered up to its last whole record.
func TestCutLogs(t *testing.T) {
	log := logOf(chapter(6)...)
	for n := range len(log) + 1 {
		whole := strings.LastIndex(log[:n], "\n") + 1
		want := outcome{events: chapter(strings.Count(log[:n], "\n")), at: whole}
		if whole < n {
			want.e = api.ErrTorn
		}
		isOutcome(t, fmt.Sprint("Recover of bytes ", n), ofRecover(office.Recover(log[:n])), want)
		isOutcome(t, fmt.Sprint("the whole records of ", n), ofRecover(office.Recover(log[:whole])), outcome{events: want.events, at: whole})
	}
}

// P10.4: logs with random changes against the definitions.
func TestLogModels(t *testing.T) {
	isModel(t, "Append", 41, api.ErrTorn, api.ErrOrder, api.ErrName, api.ErrShape, api.ErrKind)
	isModel(t, "Recover", 42, api.ErrTorn)
	x := noise(43)
	seen := map[api.Errno]int{}
	for range 5000 {
		l := x.someEvents(8)
		var lines []string
		for _, e := range l {
			lines = append(lines, logOf(e))
		}
		if n := len(lines); n > 0 {
			i := x.next(n)
			lines[i] = x.otherLine(lines[i])
		}
		log := strings.Join(lines, "")
		want := ofRecover(recovered(log))
		seen[want.e]++
		isOutcome(t, fmt.Sprintf("Recover of %q", log), ofRecover(office.Recover(log)), want)
	}
	for _, e := range list(api.OK, api.ErrTorn, api.ErrSyntax, api.ErrCheck, api.ErrOrder) {
		is(t, fmt.Sprint("there are some of each: ", seen), seen[e] > 20, true)
	}
}

// otherLine changes a line, most of the time together with its checksum.
func (x *noise) otherLine(line string) string {
	words := strings.Split(line[:strings.Index(line, "#")], " ")
	i := x.next(len(words))
	switch x.next(9) {
	case 0:
		words[i] += pick(x, "", "0", " ", "x", "#", "\n")
	case 1:
		words[i] = pick(x, "0", "00", "1", "2", "7", "1000", "1001", "01", "enter", "rule", "x", "")
	case 2:
		words = slices.Delete(words, i, i+1)
	case 3:
		words = slices.Insert(words, i, pick(x, "", "a", "1"))
	case 4:
		return strings.Replace(line, "#", pick(x, "", "##", "#0", " #"), 1)
	case 5:
		return line[:len(line)-1-x.next(8)] + pick(x, "", "0", "1", "\n")
	case 6:
		return line[x.next(len(line)):]
	case 7:
		return line + line
	}
	return sealed(strings.Join(words, " "))
}
