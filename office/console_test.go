package office_test

import (
	"fmt"
	"slices"
	"strings"
	"testing"

	"turnround/api"
	"turnround/office"
)

// session returns a session with events.
func session(t *testing.T, l []api.Event) *office.Session {
	t.Helper()
	return ok[*office.Session](t)(office.Open(logOf(l...)))
}

// isDone checks that a session answers a line.
func isDone(t *testing.T, s *office.Session, line, want string) {
	t.Helper()
	got, e := s.Do(line)
	is(t, "Do "+line, fmt.Sprintf("%q %d", got, e), fmt.Sprintf("%q %d", want, api.OK))
}

// isRefused checks that a session has an error for a line, and that it stays as it was.
func isRefused(t *testing.T, s *office.Session, line string, want api.Errno) {
	t.Helper()
	before := s.Log()
	got, e := s.Do(line)
	is(t, "Do "+line, fmt.Sprintf("%q %d", got, e), fmt.Sprintf("%q %d", "", want))
	is(t, "the log after "+line, s.Log(), before)
}

// P10.5: the lines of the chapter's examples, one after the other.
func TestConsole(t *testing.T) {
	s := office.New()
	isDone(t, s, "open", "none")
	isDone(t, s, "day 0 0", "none")
	isDone(t, s, "counts 99999", "none")
	for i, line := range []string{"enter e a 5 10 20 600", "rule r a 7 15 20 660", "follow f b r 8 15 20 700", "reverse r 9", "complain c e 10", "decide c 11 1"} {
		isDone(t, s, line, fmt.Sprint("done ", i+1))
		isEvents(t, "Events after "+line, s.Events(), chapter(i+1))
		is(t, "Log after "+line, s.Log(), logOf(chapter(i+1)...))
	}
	for line, want := range map[string]string{
		"slot a 4 16": "none", "slot a 5 16": "600", "slot a 7 16": "660", "slot a 9 16": "600", "slot a 11 16": "none", "slot b 8 16": "700", "slot b 9 16": "none", "slot none 9 16": "none", "slot a 0 0": "none", "slot a 99999 99999": "none",
		"day 4 16": "none", "day 5 16": "a 600", "day 8 16": "a 660 b 700", "day 8 12": "a 600", "day 9 16": "a 600", "day 11 16": "none", "day 0 99999": "none",
		"counts 4": "none", "counts 5": "e", "counts 8": "e r f", "counts 9": "e", "counts 11": "none", "counts 0": "none",
		"rests r": "f", "rests e": "none", "rests f": "none", "open": "none",
	} {
		isDone(t, s, line, want)
	}
	isDone(t, s, "enter none none 11 0 0 0", "done 7")
	isDone(t, s, "counts 11", "none")
	isDone(t, s, "day 11 0", "none 0")
	isDone(t, s, "slot none 11 0", "0")
}

// P10.5: the complaints that are not decided, in the order in which they were added.
func TestOpenComplaints(t *testing.T) {
	s := session(t, chapter(3))
	for _, x := range []struct{ line, result, open string }{
		{"complain z e 8", "done 4", "z"}, {"complain b r 8", "done 5", "z b"}, {"complain m f 8", "done 6", "z b m"}, {"decide b 8 0", "done 7", "z m"},
		{"complain a e 8", "done 8", "z m a"}, {"decide z 8 1", "done 9", "m a"}, {"decide a 9 0", "done 10", "m"}, {"reverse r 9", "done 11", "m"}, {"decide m 9 1", "done 12", "none"},
	} {
		isDone(t, s, x.line, x.result)
		isDone(t, s, "open", x.open)
	}
}

// P10.5: lines that are too long or empty, or begin with no word of the console.
func TestNoLines(t *testing.T) {
	s := session(t, chapter(4))
	isRefused(t, s, "", api.ErrSyntax)
	for _, line := range []string{" ", "  ", " open", " counts 5", "show", "Open", "opens", "ope", "open\n", "open\tx", "\topen", "\n", "none", "done", "done 1", "1", "5 enter g a 9 10 20 600", "enter\tg a 9 10 20 600", "note T 1 0 a", "log", "\x00", "\xff", "é", "#", strings.Repeat("x", 4096), strings.Repeat(" ", 4096)} {
		isRefused(t, s, line, api.ErrKind)
	}
	for _, line := range []string{"", "x", " ", "open", "enter g a 9 10 20 600"} {
		isRefused(t, s, line+strings.Repeat(" ", 4097-len(line)), api.ErrLong)
	}
	for _, word := range []string{"open", "counts", "rests", "slot", "day", "enter", "rule", "follow", "reverse", "complain", "decide"} {
		isRefused(t, s, word+strings.Repeat(" ", 4096-len(word)), api.ErrSyntax)
		isRefused(t, s, word+strings.Repeat("x", 4096-len(word)), api.ErrKind)
	}
	isRefused(t, s, "counts "+strings.Repeat("1", 4089), api.ErrSyntax)
	isRefused(t, s, "rests "+strings.Repeat("x", 4090), api.ErrName)
	isRefused(t, s, "rests "+strings.Repeat("x", 4091), api.ErrLong)
}

// P10.5: lines that do not have the form of an event or of a question.
func TestLinesWithoutForm(t *testing.T) {
	s := session(t, chapter(4))
	good := []struct{ line, result string }{{"slot a 9 16", "600"}, {"day 9 16", "a 600"}, {"counts 9", "e"}, {"rests e", "none"}, {"open", "none"}, {"enter g a 9 10 20 600", "done 5"}}
	for _, x := range good {
		line := x.line
		words := strings.Split(line, " ")
		isRefused(t, s, line+" ", api.ErrSyntax)
		isRefused(t, s, line+" x", api.ErrSyntax)
		isRefused(t, s, line+" 5", api.ErrSyntax)
		for i := 1; i < len(words); i++ {
			isRefused(t, s, strings.Join(words[:i], " "), api.ErrSyntax)
			isRefused(t, s, strings.Join(words[:i], " ")+" ", api.ErrSyntax)
			isRefused(t, s, strings.Join(words[:i], " ")+"  "+strings.Join(words[i:], " "), api.ErrSyntax)
			isRefused(t, s, strings.Join(words[:i], " ")+" "+strings.Join(words[i-1:], " "), api.ErrSyntax)
		}
		for i, word := range words {
			if !areDigits(word) {
				continue
			}
			for _, other := range []string{"", "x", "0" + word, "00", "+" + word, "-" + word, "-0", word + ".", word + "\n", "\t" + word, "1e1", "0x1", "1_0", "\u0661", "\xff", "1000000000", "0000000001", "99999999999999999999", strings.Repeat("1", 4000)} {
				isRefused(t, s, strings.Join(slices.Replace(slices.Clone(words), i, i+1, other), " "), api.ErrSyntax)
			}
		}
	}
	for _, line := range []string{"enter g a 9 10 20", "enter g 9 10 20 600", "enter g a b 9 10 20 600", "rule g a 9 10 20", "rule g a e 9 10 20 600", "follow g a e 9 10 20", "follow g a 9 10 20 600", "reverse r", "reverse r 9 9", "reverse r x", "complain d 9", "complain d e", "complain d e x", "decide c 9", "decide c 1 x", "decide c d 9 1"} {
		isRefused(t, s, line, api.ErrSyntax)
	}
	for _, x := range good {
		isDone(t, s, x.line, x.result)
	}
}

// P10.5: a line has the error of its event, in its order, and changes nothing then.
func TestRefusedEvents(t *testing.T) {
	s := session(t, then(chapter(4), complain("c", "e", 9), complain("d", "e", 9), decide("d", 9, 0)))
	for _, x := range []struct {
		line string
		e    api.Errno
	}{
		{"enter 1 a 9 10 20 600", api.ErrName}, {"enter g 1 9 10 20 600", api.ErrName}, {"enter g\n a 9 10 20 600", api.ErrName}, {"enter g# a 9 10 20 600", api.ErrName}, {"enter g \xff 9 10 20 600", api.ErrName}, {"follow g a - 9 10 20 600", api.ErrName}, {"rule 1 1 0 10 20 600", api.ErrName}, {"decide 5 5 5", api.ErrName}, {"complain e 5 9", api.ErrName},
		{"enter g a 8 10 20 600", api.ErrState}, {"enter e a 8 10 20 600", api.ErrState}, {"reverse x 0", api.ErrState}, {"decide x 8 7", api.ErrState},
		{"enter g a 100000 10 20 600", api.ErrRange}, {"enter e a 999999999 10 20 600", api.ErrRange}, {"decide d 100000 0", api.ErrRange},
		{"enter e a 9 20 10 2000", api.ErrTwice}, {"rule f a 9 10 20 600", api.ErrTwice}, {"follow r a x 9 10 20 600", api.ErrTwice}, {"complain c x 9", api.ErrTwice},
		{"follow g a x 9 10 20 2000", api.ErrUnknown}, {"reverse x 9", api.ErrUnknown}, {"reverse c 9", api.ErrUnknown}, {"complain k x 9", api.ErrUnknown}, {"decide x 9 7", api.ErrUnknown}, {"decide e 9 1", api.ErrUnknown},
		{"reverse e 9", api.ErrKind}, {"reverse f 9", api.ErrKind},
		{"follow g a r 9 20 10 600", api.ErrOver}, {"follow g a f 9 10 20 600", api.ErrOver}, {"reverse r 9", api.ErrOver}, {"complain k r 9", api.ErrOver}, {"complain k f 9", api.ErrOver}, {"decide d 9 7", api.ErrOver},
		{"enter g a 9 100000 20 600", api.ErrRange}, {"enter g a 9 20 100000 600", api.ErrRange}, {"enter g a 9 20 10 1441", api.ErrRange}, {"decide c 9 2", api.ErrRange},
		{"enter g a 9 20 10 600", api.ErrOrder}, {"follow g a e 9 20 19 1440", api.ErrOrder},
	} {
		isRefused(t, s, x.line, x.e)
	}
	isDone(t, s, "decide c 9 1", "done 8")
}

// P10.5: a question has the error of its function.
func TestRefusedQuestions(t *testing.T) {
	s := session(t, chapter(6))
	for line, want := range map[string]api.Errno{
		"slot 1 5 16": api.ErrName, "slot - 100000 100000": api.ErrName, "slot \n 5 16": api.ErrName, "slot a 100000 16": api.ErrRange, "slot a 5 100000": api.ErrRange, "slot a 999999999 999999999": api.ErrRange,
		"day 100000 5": api.ErrRange, "day 5 100000": api.ErrRange, "counts 100000": api.ErrRange, "counts 999999999": api.ErrRange,
		"rests 1": api.ErrName, "rests \xff": api.ErrName, "rests x": api.ErrUnknown, "rests c": api.ErrUnknown, "rests a": api.ErrUnknown,
		"slot a -5 16": api.ErrSyntax, "slot 1 -5 16": api.ErrSyntax, "slot 1 5": api.ErrSyntax, "rests 1 1": api.ErrSyntax,
	} {
		isRefused(t, s, line, want)
	}
}

// P10.5: as many entries and complaints as there can be.
func TestFullSessions(t *testing.T) {
	s := office.New()
	for i := range 256 {
		isDone(t, s, fmt.Sprintf("rule n%d s%d 0 0 99999 %d", i, i, i), fmt.Sprint("done ", i+1))
	}
	isRefused(t, s, "enter x a 0 0 0 0", api.ErrMany)
	isRefused(t, s, "enter n0 a 0 0 0 0", api.ErrTwice)
	for i := range 64 {
		isDone(t, s, fmt.Sprintf("complain c%d n%d 0", i, i), fmt.Sprint("done ", 257+i))
	}
	isRefused(t, s, "complain x n0 0", api.ErrMany)
	for i := range 256 {
		isDone(t, s, fmt.Sprintf("reverse n%d 0", i), fmt.Sprint("done ", 321+i))
	}
	for i := range 64 {
		isDone(t, s, fmt.Sprintf("decide c%d 0 1", i), fmt.Sprint("done ", 577+i))
	}
	isDone(t, s, "counts 0", "none")
	is(t, "events", len(s.Events()), 640)
	again := ok[*office.Session](t)(office.Open(s.Log()))
	is(t, "the log again", again.Log(), s.Log())
}

// P10.5: Open returns a session with the events of a log, also of one that is torn.
func TestOpen(t *testing.T) {
	log := logOf(chapter(6)...)
	for n := range len(log) + 1 {
		s, e := office.Open(log[:n])
		is(t, fmt.Sprint("Open of bytes ", n), e, api.OK)
		whole := strings.Count(log[:n], "\n")
		isEvents(t, fmt.Sprint("Events of bytes ", n), s.Events(), chapter(whole))
		is(t, fmt.Sprint("Log of bytes ", n), s.Log(), log[:strings.LastIndex(log[:n], "\n")+1])
		if whole < 6 {
			isDone(t, s, body(chapter(6)[whole])[2:], fmt.Sprint("done ", whole+1))
		}
	}
	no := func(what, log string, want api.Errno) {
		t.Helper()
		s, e := office.Open(log)
		is(t, "Open of "+what, e, want)
		is(t, "the session of "+what, s == nil, true)
	}
	no("a long log", strings.Repeat("x", 1000001), api.ErrLong)
	no("an empty line", "\n", api.ErrSyntax)
	no("a wrong line", log+"\n", api.ErrSyntax)
	no("a wrong checksum", "1#0000331\n", api.ErrCheck)
	no("a wrong checksum behind others", log+"1#0000331\n", api.ErrCheck)
	no("a log without its first record", logOf(chapter(6)[1:]...), api.ErrOrder)
	no("a log with a record twice", log+logOf(chapter(1)...), api.ErrOrder)
	for what, x := range map[string]struct {
		l []api.Event
		e api.Errno
	}{
		"an event known too early":     {then(chapter(4), complain("c", "e", 8)), api.ErrState},
		"an event known too late":      {then(chapter(4), complain("c", "e", 100000)), api.ErrRange},
		"an entry twice":               {then(chapter(4), enter("e", "a", 9, 1, 2, 3)), api.ErrTwice},
		"257 entries":                  {entries(257), api.ErrMany},
		"an unknown entry":             {numbered(reverse("r", 9)), api.ErrUnknown},
		"no ruling":                    {then(chapter(4), reverse("e", 9)), api.ErrKind},
		"an entry that does not count": {then(chapter(4), complain("c", "r", 9)), api.ErrOver},
		"days in a wrong order":        {numbered(enter("e", "a", 9, 3, 2, 1)), api.ErrOrder},
		"1000 records":                 {thousand(), api.ErrRange},
	} {
		no(what, logOf(x.l...), x.e)
		no(what+" in a torn log", logOf(x.l...)+"1", x.e)
		no(what+" before a wrong line", logOf(x.l...)+"\n", api.ErrSyntax)
	}
}

// P10.5: a nil session does nothing, and one that was not made by New has no events.
func TestOtherSessions(t *testing.T) {
	var none *office.Session
	for _, line := range []string{"", "open", "enter e a 5 10 20 600", "x", strings.Repeat("x", 5000)} {
		got, e := none.Do(line)
		is(t, "Do of a nil session", fmt.Sprint(got, e), fmt.Sprint("", api.ErrState))
	}
	is(t, "Events of a nil session", len(none.Events()), 0)
	is(t, "Log of a nil session", none.Log(), "")
	for _, s := range []*office.Session{office.New(), new(office.Session), session(t, nil)} {
		is(t, "Events of a new session", len(s.Events()), 0)
		is(t, "Log of a new session", s.Log(), "")
		isDone(t, s, "open", "none")
		isDone(t, s, "enter e a 5 10 20 600", "done 1")
	}
	isDone(t, office.New(), "enter e a 5 10 20 600", "done 1")
}

// answer is the result of a line for a session with events, word by word, and the event that it adds.
func answer(l []api.Event, line string) (string, api.Event, api.Errno) {
	words := strings.Split(line, " ")
	switch {
	case len(line) > 4096:
		return "", api.Event{}, api.ErrLong
	case line == "":
		return "", api.Event{}, api.ErrSyntax
	}
	if names, _ := shapeOf(words[0]); names < 0 {
		text, e := asks(l, words)
		return text, api.Event{}, e
	}
	e, isBody := eventOf(append(list("1"), words...))
	e.Number = len(l) + 1
	if !isBody {
		return "", api.Event{}, api.ErrSyntax
	}
	if err := acceptError(l, e); err != api.OK {
		return "", api.Event{}, err
	}
	return fmt.Sprint("done ", e.Number), e, api.OK
}

// asks is the answer to the words of a question.
func asks(l []api.Event, words []string) (string, api.Errno) {
	shape, isQuestion := map[string]string{"slot": "SKD", "day": "KD", "counts": "K", "rests": "E", "open": ""}[words[0]]
	switch {
	case !isQuestion:
		return "", api.ErrKind
	case len(words)-1 != len(shape) || slices.Contains(words, ""):
		return "", api.ErrSyntax
	}
	x := arguments{l: l}
	for i, word := range words[1:] {
		n, isNumber := integer(word)
		switch {
		case shape[i] == 'S':
			x.series = word
		case shape[i] == 'E':
			x.entry = word
		case !isNumber:
			return "", api.ErrSyntax
		case shape[i] == 'K':
			x.known = n
		default:
			x.day = n
		}
	}
	return said(words[0], x)
}

// said is the answer to a question, or none.
func said(word string, x arguments) (string, api.Errno) {
	var all []string
	var o outcome
	switch word {
	case "slot":
		o = functionOf("Minute").model(x)
		if o.minute < 1440 {
			all = list(fmt.Sprint(o.minute))
		}
	case "day":
		o = functionOf("AsOf").model(x)
		for _, s := range o.slots {
			all = append(all, s.Series, fmt.Sprint(s.Minute))
		}
	case "counts":
		o = functionOf("Counting").model(x)
		all = o.names
	case "rests":
		o = functionOf("Resting").model(x)
		all = o.names
	case "open":
		for _, c := range complaintsOf(x.l) {
			if !c.Closed {
				all = append(all, c.Name)
			}
		}
	}
	switch {
	case o.e != api.OK:
		return "", o.e
	case len(all) == 0:
		return "none", api.OK
	}
	return strings.Join(all, " "), api.OK
}

// someLine has a line of the console, most of the time one that has no error.
func (x *noise) someLine(l []api.Event) string {
	k, d := x.next(30), x.next(50)
	line := pick(x,
		body(x.nextEvent(l))[len(fmt.Sprint(len(l)+1))+1:], fmt.Sprint("slot ", pick(x, someSeries...), " ", k, " ", d), fmt.Sprint("day ", k, " ", d),
		fmt.Sprint("counts ", k), "rests "+pick(x, someEntries...), "open",
	)
	if x.next(5) > 0 {
		return line
	}
	words := strings.Split(line, " ")
	i := x.next(len(words))
	words[i] = pick(x, "", "0", "01", "1", "x", "100000", "1000000000", "-1", "open", words[i]+" ", words[i]+" x", " "+words[i])
	return strings.Join(words, " ")
}

// P10.5: sessions with random lines against the definitions.
func TestConsoleModel(t *testing.T) {
	x := noise(51)
	seen := map[string]int{}
	for range 150 {
		s := office.New()
		var l []api.Event
		for range 100 {
			line := x.someLine(l)
			got, e := s.Do(line)
			want, event, err := answer(l, line)
			is(t, fmt.Sprintf("Do %q after %v", line, l), fmt.Sprintf("%q %d", got, e), fmt.Sprintf("%q %d", want, err))
			if event.Number > 0 {
				l = append(l, event)
			}
			seen[fmt.Sprint(strings.Split(line, " ")[0], " ", err == api.OK)]++
			seen[fmt.Sprint("error ", err)]++
		}
		isEvents(t, "Events", s.Events(), l)
		is(t, "Log", s.Log(), logOf(l...))
	}
	for _, word := range []string{"slot", "day", "counts", "rests", "open", "enter", "rule", "follow", "reverse", "complain", "decide"} {
		is(t, fmt.Sprint("there are some of each word: ", word, seen), seen[word+" true"] > 5 && seen[word+" false"] > 5, true)
	}
	for _, e := range list(api.ErrSyntax, api.ErrKind, api.ErrName, api.ErrRange, api.ErrState, api.ErrUnknown, api.ErrTwice, api.ErrOver) {
		is(t, fmt.Sprint("there are some of each error: ", e, seen), seen[fmt.Sprint("error ", e)] > 5, true)
	}
}
