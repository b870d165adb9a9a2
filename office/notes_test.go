package office_test

import (
	"fmt"
	"math"
	"slices"
	"strings"
	"testing"

	"turnround/api"
	"turnround/office"
)

// P10.3: notes on the edges of what is permitted.
func TestGoodNotes(t *testing.T) {
	good := func(what string, l ...office.Note) {
		t.Helper()
		is(t, "CheckNotes of "+what, office.CheckNotes(l), api.OK)
	}
	good("nothing")
	for _, s := range names {
		good("the desk "+s, note(s, 1, 0, "a"))
	}
	for _, n := range []int{1, 2, 1000, 1001, 999999999} {
		good(fmt.Sprint("the number ", n), note("T", n, 0, "a"))
	}
	for _, day := range []int{0, 1, 99999} {
		good(fmt.Sprint("the day ", day), note("T", 1, day, "a"))
	}
	var all []byte
	for b := byte(' '); b <= '~'; b++ {
		good(fmt.Sprint("the byte ", b), note("T", 1, 0, string(rune(b))))
		all = append(all, b)
	}
	good("all bytes", note("T", 1, 0, string(all[:80])), note("T", 2, 0, string(all[15:])))
	good("blanks", note("T", 1, 0, strings.Repeat(" ", 80)))
	good("a note twice", note("T", 1, 0, "a"), note("T", 1, 0, "a"))
	good("a note again later", note("T", 1, 0, "a"), note("T", 2, 0, "b"), note("T", 1, 0, "a"), note("T", 1, 0, "a"))
	good("one number at two desks", note("T", 1, 0, "a"), note("t", 1, 1, "b"))
	good("the same message under two numbers", note("T", 1, 0, "a"), note("T", 2, 0, "a"))
	good("256 notes", slices.Repeat(list(note("T", 1, 0, "a")), 256)...)
}

// P10.3: each error of notes, also with all later ones beside it.
func TestBadNotes(t *testing.T) {
	bad := func(what string, e api.Errno, l ...office.Note) {
		t.Helper()
		is(t, "CheckNotes of "+what, office.CheckNotes(l), e)
		isError(t, "Gather of "+what, ofNotes(office.Gather(l)), e)
		isError(t, "Lacking of "+what, ofMissing(office.Lacking(l)), e)
	}
	// A number of 5000 would be ErrLimit in Lacking.
	large := note("L", 5000, 0, "a")
	bad("257 notes", api.ErrMany, slices.Repeat(list(note("T", 1, 0, "a")), 257)...)
	bad("257 empty notes", api.ErrMany, make([]office.Note, 257)...)
	bad("an empty note", api.ErrName, large, office.Note{})
	for _, s := range noNames {
		bad("the desk "+s, api.ErrName, note(s, 1, 0, "a"))
		bad("the desk and more "+s, api.ErrName, large, note(s, 0, -1, ""), note("T", 0, 0, ""))
	}
	for _, n := range []int{math.MinInt, -1, 0, 1000000000, math.MaxInt} {
		bad(fmt.Sprint("the number ", n), api.ErrRange, note("T", n, 0, "a"))
		bad(fmt.Sprint("the number and more ", n), api.ErrRange, large, note("T", n, -1, ""), office.Note{})
	}
	for _, day := range noDays {
		bad(fmt.Sprint("the day ", day), api.ErrRange, note("T", 1, day, "a"))
		bad(fmt.Sprint("the day and more ", day), api.ErrRange, note("T", 1, 5, "a"), note("T", 1, day, ""), office.Note{})
	}
	texts := list("", strings.Repeat("a", 81), strings.Repeat("a", 100000), "\n", "a\n", "\ta", "a\x00", "\x1f", "\x7f", "a\x80", "\xff", "é", "ä~", strings.Repeat("é", 40), "\u2028", "\xe2\x82")
	for _, text := range texts {
		bad("the text "+text, api.ErrForm, note("T", 1, 0, text))
		bad("the text and more "+text, api.ErrForm, note("T", 1, 5, "a"), large, note("T", 1, 0, text), office.Note{})
	}
	for b := range 256 {
		if b < ' ' || b > '~' {
			bad(fmt.Sprint("the byte ", b), api.ErrForm, note("T", 1, 0, "a"+string([]byte{byte(b)})+"a"))
		}
	}
	bad("another day", api.ErrConflict, note("T", 1, 0, "a"), note("T", 1, 1, "a"), office.Note{})
	bad("another text", api.ErrConflict, large, note("T", 1, 0, "a"), note("N", 1, 0, "b"), note("T", 1, 0, "A"))
	bad("a third one", api.ErrConflict, note("T", 1, 0, "a"), note("T", 1, 0, "a"), note("T", 2, 0, "b"), note("T", 1, 0, "b"))
	bad("another text with a blank", api.ErrConflict, note("T", 1, 0, "a"), note("T", 1, 0, "a "))
	bad("a conflict before an error", api.ErrConflict, note("T", 1, 0, "a"), note("T", 1, 1, "a"), note("T", 1, 1, ""))
	bad("an error before a conflict", api.ErrForm, note("T", 1, 0, "a"), note("T", 2, 1, ""), note("T", 1, 1, "a"))
	// Two desks whose names and numbers look alike together.
	is(t, "T1 1 and T 11", office.CheckNotes(list(note("T1", 1, 0, "a"), note("T", 11, 1, "b"))), api.OK)
}

// P10.3: collected notes are in order, each one once.
func TestGather(t *testing.T) {
	l := list(note("T", 2, 4, "late"), note("T", 1, 3, "a"), note("N", 1, 3, "b"), note("T", 2, 4, "late"))
	isOutcome(t, "Gather of the chapter's notes", ofNotes(office.Gather(l)), outcome{notes: list(l[2], l[1], l[0])})
	isOutcome(t, "Gather of nothing", ofNotes(office.Gather(nil)), outcome{})
	ascending := list(
		note("Z", 9, 0, "z"), note("a", 1, 0, "z"), note("A", 10, 1, "x"), note("T", 2, 1, "z"), note("T", 9, 1, "a"), note("T", 10, 1, "b"), note("T1", 1, 1, "z"), note("TT", 1, 1, "a"), note("T_", 1, 1, "a"), note("a", 2, 1, "a"), note("a", 999999999, 2, "a"), note("A", 1, 99999, "a"),
	)
	x := noise(31)
	for range 200 {
		some := shuffled(&x, slices.Concat(ascending, shuffled(&x, ascending)[:x.next(len(ascending))]))
		isOutcome(t, "Gather", ofNotes(office.Gather(some)), outcome{notes: ascending})
	}
	is(t, "notes with equal texts", len(ok[[]office.Note](t)(office.Gather(list(note("T", 1, 0, "a"), note("T", 2, 0, "a"), note("N", 1, 0, "a"))))), 3)
}

func missing(desk string, numbers ...int) office.Missing {
	return office.Missing{Desk: desk, Numbers: numbers}
}

// P10.3: the missing notes are those below the greatest number of a desk.
func TestLacking(t *testing.T) {
	for _, x := range []struct {
		what string
		l    []office.Note
		want []office.Missing
	}{
		{"nothing", nil, nil},
		{"the first one", list(note("T", 1, 0, "a")), nil},
		{"the second one", list(note("T", 2, 0, "a")), list(missing("T", 1))},
		{"two notes", list(note("T", 4, 3, "a"), note("T", 1, 3, "a")), list(missing("T", 2, 3))},
		{"all notes", list(note("T", 3, 3, "a"), note("T", 1, 3, "a"), note("T", 2, 3, "a"), note("T", 3, 3, "a")), nil},
		{"several desks", list(note("T", 3, 3, "a"), note("b", 1, 3, "a"), note("N", 2, 3, "a"), note("B", 4, 3, "a"), note("B", 2, 3, "a"), note("a", 2, 0, "a")), list(missing("B", 1, 3), missing("N", 1), missing("T", 1, 2), missing("a", 1))},
		{"desks that look alike", list(note("T", 11, 3, "a"), note("T1", 1, 3, "a")), list(missing("T", 1, 2, 3, 4, 5, 6, 7, 8, 9, 10))},
	} {
		isOutcome(t, "Lacking of "+x.what, ofMissing(office.Lacking(x.l)), outcome{missing: x.want})
	}
	all := ok[[]office.Missing](t)(office.Lacking(list(note("T", 1000, 0, "a"), note("T", 7, 0, "a"))))
	is(t, "missing notes of one desk", len(all), 1)
	is(t, "missing numbers", len(all[0].Numbers), 998)
	is(t, "the last one", all[0].Numbers[997], 999)
	var many []office.Note
	for i := range 256 {
		many = append(many, note(fmt.Sprint("d", i), 1000-i, i, "a"))
	}
	all = ok[[]office.Missing](t)(office.Lacking(many))
	is(t, "desks", len(all), 256)
	is(t, "the first desk", all[0].Desk, "d0")
	is(t, "the second desk", all[1].Desk, "d1")
	is(t, "the third desk", all[2].Desk, "d10")
}

// P10.3: a greatest number above 1000 is too large for Lacking, after all other errors.
func TestTooManyMissing(t *testing.T) {
	for _, n := range []int{1001, 5000, 999999999} {
		l := list(note("N", 1, 0, "a"), note("T", n, 0, "a"), note("T", 2, 0, "a"))
		isError(t, fmt.Sprint("Lacking up to ", n), ofMissing(office.Lacking(l)), api.ErrLimit)
		is(t, "CheckNotes", office.CheckNotes(l), api.OK)
		is(t, "Gather", len(ok[[]office.Note](t)(office.Gather(l))), 3)
		isError(t, "Lacking with a later error", ofMissing(office.Lacking(append(l, note("T", 2, 1, "a")))), api.ErrConflict)
	}
	is(t, "Lacking up to 1000", len(ok[[]office.Missing](t)(office.Lacking(list(note("T", 1000, 0, "a"))))), 1)
}

// P10.3: notes against the definitions.
func TestNoteModels(t *testing.T) {
	isModel(t, "CheckNotes", 32, api.ErrName, api.ErrRange, api.ErrForm, api.ErrConflict)
	isModel(t, "Gather", 33, api.ErrName, api.ErrRange, api.ErrForm, api.ErrConflict)
	isModel(t, "Lacking", 34, api.ErrName, api.ErrRange, api.ErrForm, api.ErrConflict)
	x := noise(35)
	for range 300 {
		l := x.someDesks(256)
		for _, name := range list("CheckNotes", "Gather", "Lacking") {
			functionOf(name).is(t, fmt.Sprint(l), arguments{notes: l}, api.OK)
		}
	}
}
