package message_test

import (
	"fmt"
	"strings"
	"testing"

	"turnround/api"
	"turnround/message"
)

// textOf is the definition of the string of a message.
func textOf(m message.Message) string {
	s := fmt.Sprintf("SLOTS %s %s %s %05d\n", m.Kind, m.Airport, m.Season, m.Day)
	for _, l := range m.Lines {
		s += printed(l) + "\n"
	}
	return s + fmt.Sprintf("END %02d\n", len(m.Lines))
}

// goodMessages has messages without an error, short and long.
func goodMessages() []message.Message {
	all := []message.Message{
		asks(),
		answersOf(),
		asks(line("N", q())),
		asks(line("N", q()), line("C", q()), line("R", with(at(615))), line("D", with(at(615))), line("H", q())),
		answersOf(line("K", q()), line("O", q()), line("U", q()), line("X", q())),
		asks(lines("N", goodRequests()[:40])...),
		asks(lines("H", series(9))...),
		asks(lines("H", series(10))...),
		asks(lines("N", series(64))...),
		{Kind: "ANS", Airport: "Z", Season: "W0000", Day: 0, Lines: lines("K", series(63))},
		{Kind: "REQ", Airport: names[4], Season: "S9999", Day: 99999, Lines: lines("D", series(2))},
	}
	var widest []message.Line
	x := strings.Repeat("x", 24)
	for range 64 {
		widest = append(widest, line("N", with(named(x), of(x), linked("D", strings.Repeat("y", 24)), func(r *api.Request) { r.Terminal, r.Partner = x, x })))
	}
	return append(all, asks(widest...))
}

// P2.4: messages are printed as the definition says, and parsed.
func TestPrintAndParseMessage(t *testing.T) {
	for i, m := range goodMessages() {
		what := fmt.Sprint("message ", i)
		s, e := message.PrintMessage(m)
		is(t, "PrintMessage: "+what, e, api.OK)
		is(t, "PrintMessage: "+what, s, textOf(m))
		back, at, e := message.ParseMessage(textOf(m))
		isMessage(t, "ParseMessage: "+what, back, m)
		is(t, "index of ParseMessage: "+what, at, 0)
		is(t, "ParseMessage: "+what, e, api.OK)
	}
	s, _ := message.PrintMessage(asks(line("N", q())))
	is(t, "the message of the example", s, head24+line24+"\nEND 01\n")
	s, _ = message.PrintMessage(message.Message{Kind: "ANS", Airport: "a", Season: "W2001", Day: 7})
	is(t, "an empty answer", s, "SLOTS ANS a W2001 00007\nEND 00\n")
}

// P2.4: a message with an error has no string.
func TestNoMessages(t *testing.T) {
	bad := func(what string, m message.Message, e api.Errno) {
		t.Helper()
		s, got := message.PrintMessage(m)
		is(t, "PrintMessage: "+what, got, e)
		is(t, "PrintMessage: "+what, s, "")
	}
	for _, x := range badLines {
		bad(x.what, asks(x.lines...), x.e)
	}
	m := asks(line("N", q()))
	m.Kind = ""
	bad("no kind", m, api.ErrKind)
	m = asks(line("N", q()))
	m.Airport = "-"
	bad("no airport", m, api.ErrName)
	m = asks(line("N", q()))
	m.Season = "2024S"
	bad("no season", m, api.ErrForm)
	m = asks(line("N", q()))
	m.Day = 100000
	bad("no day", m, api.ErrRange)
	bad("65 lines", asks(lines("N", series(65))...), api.ErrMany)
}

// isWrongMessage checks that a string is no message, from a line of text on.
func isWrongMessage(t *testing.T, s string, at int, e api.Errno) {
	t.Helper()
	what := fmt.Sprintf("ParseMessage %q", s[:min(len(s), 200)])
	m, gotAt, gotE := message.ParseMessage(s)
	is(t, "index of "+what, gotAt, at)
	is(t, "error of "+what, gotE, e)
	isMessage(t, what, m, message.Message{})
}

// P2.4: a string of more than 16384 bytes is too long, whatever it has.
func TestLongMessages(t *testing.T) {
	good := head24 + line24 + "\nEND 01\n"
	isWrongMessage(t, good+strings.Repeat("x", 16385-len(good)), 0, api.ErrLong)
	isWrongMessage(t, strings.Repeat("\n", 16385), 0, api.ErrLong)
	isWrongMessage(t, strings.Repeat("\n", 100000), 0, api.ErrLong)
	isWrongMessage(t, good+strings.Repeat("x", 16384-len(good)), 3, api.ErrSyntax)
	isWrongMessage(t, head24+strings.Repeat("x", 16384-len(head24)), 1, api.ErrSyntax)
	isWrongMessage(t, strings.Repeat("\n", 16384), 0, api.ErrSyntax)
}

// P2.4: the line 0 is a header, with a line feed at its end.
func TestWrongHeaders(t *testing.T) {
	rest := line24 + "\nEND 01\n"
	for _, head := range []string{
		"\n", " \n", "SLOTS\n", "END 00\n", line24 + "\n",
		"slots REQ here S2024 08800\n", "SLOT REQ here S2024 08800\n", " REQ here S2024 08800\n", "XSLOTS REQ here S2024 08800\n",
		"SLOTS req here S2024 08800\n", "SLOTS  here S2024 08800\n", "SLOTS REQ  S2024 08800\n", "SLOTS REQ here  08800\n", "SLOTS REQ here S2024 \n",
		"SLOTS REQ 1here S2024 08800\n", "SLOTS REQ - S2024 08800\n", "SLOTS REQ here S24 08800\n", "SLOTS REQ here s2024 08800\n", "SLOTS REQ here 2024S 08800\n",
		"SLOTS REQ here S2024 8800\n", "SLOTS REQ here S2024 008800\n", "SLOTS REQ here S2024 -0001\n", "SLOTS REQ here S2024 0880a\n", "SLOTS REQ here S2024 0880\xff\n",
		"SLOTS REQ here S2024 08800 \n", " SLOTS REQ here S2024 08800\n", "SLOTS  REQ here S2024 08800\n", "SLOTS REQ here S2024\n", "SLOTS REQ here S2024 08800 08800\n",
		"SLOTS\tREQ here S2024 08800\n", "SLOTS REQ here S2024 08800\r\n", "SLOTS REQ here S2024 08800\x00\n", "SLOTS REQ here S2024 100000\n", "END REQ here S2024 08800\n",
		"\xef\xbb\xbfSLOTS REQ here S2024 08800\n", "REQ SLOTS here S2024 08800\n",
	} {
		isWrongMessage(t, head+rest, 0, api.ErrSyntax)
		isWrongMessage(t, head, 0, api.ErrSyntax)
	}
	for _, s := range []string{"x", "SLOTS REQ here S2024 08800", "SLOTS REQ here S2024 08800" + line24, "SLOTS REQ here S2024 08800 END 00"} {
		isWrongMessage(t, s, 0, api.ErrSyntax)
	}
}

// P2.4: a text without a footer is torn behind its last line, an empty one at 0; a line without a line feed is wrong.
func TestTornMessages(t *testing.T) {
	isWrongMessage(t, "", 0, api.ErrTorn)
	text := head24
	for n := range 65 {
		isWrongMessage(t, text, n+1, api.ErrTorn)
		isWrongMessage(t, text+line24, n+1, api.ErrSyntax)
		isWrongMessage(t, text+"x", n+1, api.ErrSyntax)
		isWrongMessage(t, text+fmt.Sprintf("END %02d", n), n+1, api.ErrSyntax)
		isWrongMessage(t, text+"END", n+1, api.ErrSyntax)
		text += line24 + "\n"
	}
	isWrongMessage(t, head24+"K"+line24[1:]+"\n", 2, api.ErrTorn)
	isWrongMessage(t, head24+"C"+line24[1:]+"\n", 2, api.ErrTorn)
}

// P2.4: the footer has its form, the number of lines, and nothing behind it.
func TestWrongFooters(t *testing.T) {
	for n := range 3 {
		text := head24 + strings.Repeat(line24+"\n", n)
		for _, foot := range []string{"END\n", "END \n", "END  01\n", "END 1\n", "END 001\n", "END 0a\n", "END a0\n", "END -1\n", "END +1\n", "END 01 \n", "END 01 01\n", "END 01\r\n", "END \xff\xff\n", "END ٠\n", "END 0 1\n"} {
			isWrongMessage(t, text+foot, n+1, api.ErrSyntax)
			isWrongMessage(t, text+foot+"END 01\n", n+1, api.ErrSyntax)
		}
		for _, foot := range []string{"end 01\n", "ENDX 01\n", " END 01\n", "EN 01\n", "END01\n", "END\t01\n", "\n", " \n", "SLOTS REQ here S2024 08800\n", "\xff\n"} {
			isWrongMessage(t, text+foot, n+1, api.ErrSyntax)
		}
		for count := range 100 {
			if count != n {
				isWrongMessage(t, text+fmt.Sprintf("END %02d\n", count), n+1, api.ErrCheck)
				isWrongMessage(t, text+fmt.Sprintf("END %02d\nx", count), n+1, api.ErrCheck)
			}
		}
		whole := text + fmt.Sprintf("END %02d\n", n)
		for _, more := range []string{"\n", "x", " ", "END 00\n", "END 01\n", line24 + "\n", line24, head24, whole, "\x00"} {
			isWrongMessage(t, whole+more, n+2, api.ErrSyntax)
		}
	}
}

// P2.4: a wrong line has the error of ParseLine, the line 65 is one too many, and the first one decides.
func TestWrongLinesOfMessages(t *testing.T) {
	wrong := map[string]api.Errno{
		"N ab q1":        api.ErrSyntax,
		line24 + " ":     api.ErrSyntax,
		"Z" + line24[1:]: api.ErrSyntax,
		line24 + "\r":    api.ErrSyntax,
		"":               api.ErrSyntax,
		"\xff":           api.ErrSyntax,
		"N ab q1 A far 08900 08899 1030000 1005 180 4 12 t1 -":  api.ErrOrder,
		"N ab q1 A far 08900 09301 1030000 1005 180 4 12 t1 -":  api.ErrLarge,
		"N ab q1 A far 08900 08920 1030000 1005 180 0 12 t1 -":  api.ErrRange,
		"N ab q1 A far 08900 08920 1030000 1005 180 4 12 t1 q1": api.ErrPair,
		"K ab q1 A far 08900 08899 1030000 1005 180 4 12 t1 -":  api.ErrOrder,
		"R ab q1 A far 08900 08920 1030000 1005 180 4 12 t1 q1": api.ErrPair,
	}
	for l, e := range wrong {
		for _, n := range []int{0, 1, 5, 63, 64} {
			text := head24 + strings.Repeat(line24+"\n", n) + l + "\n"
			isWrongMessage(t, text, n+1, e)
			isWrongMessage(t, text+line24+"\nEND 99\n", n+1, e)
			isWrongMessage(t, text+"\n\n", n+1, e)
		}
	}
	full := head24 + strings.Repeat(line24+"\n", 64)
	isWrongMessage(t, full+line24+"\n", 65, api.ErrMany)
	isWrongMessage(t, full+line24+"\nEND 65\n", 65, api.ErrMany)
	isWrongMessage(t, full+"K"+line24[1:]+"\nEND 65\n", 65, api.ErrMany)
	isWrongMessage(t, full+line24+"\n"+line24+"\nx", 65, api.ErrMany)
}

// P2.4: last, lines that do not stand in their order, or not in a message of this kind, have the error of CheckMessage.
func TestMessagesWithErrors(t *testing.T) {
	for _, x := range []struct {
		what string
		m    message.Message
		at   int
		e    api.Errno
	}{
		{"K", asks(line("K", q())), 1, api.ErrRule},
		{"X behind others", asks(line("N", q()), line("N", q()), line("X", q()), line("K", q())), 3, api.ErrRule},
		{"N in an answer", answersOf(line("K", q()), line("N", q())), 2, api.ErrRule},
		{"C in an answer", answersOf(line("C", q()), line("R", q())), 1, api.ErrRule},
		{"R at the beginning", asks(line("R", q())), 1, api.ErrOrder},
		{"R behind R", asks(line("C", q()), line("R", q()), line("R", q())), 3, api.ErrOrder},
		{"N behind C", asks(line("N", q()), line("C", q()), line("N", q()), line("K", q())), 3, api.ErrOrder},
		{"R of another name", asks(line("C", q()), line("R", with(named("q2")))), 2, api.ErrOrder},
		{"R of another carrier", asks(line("C", q()), line("R", with(of("cd")))), 2, api.ErrOrder},
		{"C at the end", asks(line("C", q())), 1, api.ErrOrder},
		{"C at the end of 64", asks(append(lines("N", series(63)), line("C", q()))...), 64, api.ErrOrder},
		{"K before C at the end", asks(line("K", q()), line("C", q())), 1, api.ErrRule},
		{"C before K at the end", asks(line("C", q()), line("K", q())), 2, api.ErrRule},
		{"R before K", asks(line("N", q()), line("R", q()), line("K", q())), 2, api.ErrOrder},
	} {
		isWrongMessage(t, textOf(x.m), x.at, x.e)
		is(t, "CheckMessage: "+x.what, message.CheckMessage(x.m), x.e)
		// Errors of the text come first, wherever they are.
		isWrongMessage(t, textOf(x.m)+"x", len(x.m.Lines)+2, api.ErrSyntax)
		isWrongMessage(t, strings.Replace(textOf(x.m), "END ", "END 9", 1), len(x.m.Lines)+1, api.ErrSyntax)
		isWrongMessage(t, strings.Replace(textOf(x.m), "END ", "\nEND ", 1), len(x.m.Lines)+1, api.ErrSyntax)
	}
	isWrongMessage(t, strings.Replace(textOf(asks(line("K", q()))), "END 01", "END 02", 1), 2, api.ErrCheck)
}

// P2.4: of strings that differ from a message in one byte none is parsed but those that are printed so.
func TestChangedBytes(t *testing.T) {
	s := textOf(asks(line("N", with(linked("A", "q2"))), line("C", q()), line("R", with(at(5)))))
	for i := range s {
		for b := range 256 {
			changed := s[:i] + string([]byte{byte(b)}) + s[i+1:]
			m, at, e := message.ParseMessage(changed)
			if e != api.OK {
				lines := strings.Count(changed, "\n")
				if at < 0 || at > lines {
					t.Fatalf("index %d of %q", at, changed)
				}
				continue
			}
			if textOf(m) != changed {
				t.Fatalf("%q is parsed as %v", changed, m)
			}
		}
	}
}
