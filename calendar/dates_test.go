package calendar_test

import (
	"fmt"
	"math"
	"strings"
	"testing"
	"time"

	"turnround/api"
	"turnround/calendar"
)

// P1.1
func TestExampleDates(t *testing.T) {
	for _, row := range []struct {
		year, month, day int
		number           int
		weekday          int
		text             string
	}{
		{2000, 1, 1, 0, 5, "2000-01-01"},
		{2000, 2, 29, 59, 1, "2000-02-29"},
		{2026, 3, 29, 9584, 6, "2026-03-29"},
		{2273, 10, 15, 99999, 2, "2273-10-15"},
	} {
		n, e := calendar.Day(row.year, row.month, row.day)
		is(t, "Day", n, row.number)
		is(t, "Day", e, api.OK)
		d, e := calendar.Date(row.number)
		is(t, "Date", d, [3]int{row.year, row.month, row.day})
		is(t, "Date", e, api.OK)
		w, e := calendar.Weekday(row.number)
		is(t, "Weekday", w, row.weekday)
		is(t, "Weekday", e, api.OK)
		s, e := calendar.PrintDate(row.number)
		is(t, "PrintDate", s, row.text)
		is(t, "PrintDate", e, api.OK)
		n, e = calendar.ParseDate(row.text)
		is(t, "ParseDate", n, row.number)
		is(t, "ParseDate", e, api.OK)
	}
	_, e := calendar.Day(2026, 2, 30)
	is(t, "30 February", e, api.ErrNone)
}

// P1.1: every day, against the dates of the standard library.
func TestEveryDay(t *testing.T) {
	at := timeOf(0)
	for day := range api.MaxDay + 1 {
		date := [3]int{at.Year(), int(at.Month()), at.Day()}
		n, e := calendar.Day(date[0], date[1], date[2])
		d, e2 := calendar.Date(day)
		w, e3 := calendar.Weekday(day)
		if n != day || e != api.OK || d != date || e2 != api.OK || w != weekdayAt(at) || e3 != api.OK {
			t.Fatalf("day %d (%v): Day %d %d, Date %v %d, Weekday %d %d", day, date, n, e, d, e2, w, e3)
		}
		text := at.Format("2006-01-02")
		s, e := calendar.PrintDate(day)
		n, e2 = calendar.ParseDate(text)
		if s != text || e != api.OK || n != day || e2 != api.OK {
			t.Fatalf("day %d: PrintDate %q %d, ParseDate of %q %d %d", day, s, e, text, n, e2)
		}
		at = at.AddDate(0, 0, 1)
	}
}

// P1.1: every combination of numbers in and around the ranges, with the error that comes first.
func TestDayOfEveryCombination(t *testing.T) {
	for year := 1998; year <= 2275; year++ {
		for month := -1; month <= 14; month++ {
			for day := -1; day <= 33; day++ {
				n, e := calendar.Day(year, month, day)
				wantN, wantE := dayByTime(year, month, day)
				if n != wantN || e != wantE {
					t.Fatalf("Day(%d, %d, %d): got %d %d, want %d %d", year, month, day, n, e, wantN, wantE)
				}
			}
		}
	}
}

func dayByTime(year, month, day int) (int, api.Errno) {
	if year < 2000 || year > 2273 || month < 1 || month > 12 || day < 1 || day > 31 {
		return 0, api.ErrRange
	}
	at := time.Date(year, time.Month(month), day, 0, 0, 0, 0, time.UTC)
	if at.Day() != day || dayAt(at) > 99999 {
		return 0, api.ErrNone
	}
	return dayAt(at), api.OK
}

// P1.1
func TestDayOutOfRange(t *testing.T) {
	for _, row := range [][3]int{
		{math.MinInt, 1, 1}, {math.MaxInt, 1, 1}, {-1, 1, 1}, {26, 1, 1},
		{2026, math.MinInt, 1}, {2026, math.MaxInt, 1}, {2026, 1, math.MinInt}, {2026, 1, math.MaxInt},
		{2274, 2, 30}, {1999, 2, 30}, {2026, 13, 31}, {2273, 12, 32},
	} {
		n, e := calendar.Day(row[0], row[1], row[2])
		is(t, fmt.Sprint("Day of ", row), n, 0)
		is(t, fmt.Sprint("Day of ", row), e, api.ErrRange)
	}
	for _, row := range [][3]int{{2273, 10, 16}, {2273, 12, 31}, {2100, 2, 29}, {2200, 2, 29}, {2273, 2, 29}, {2023, 2, 29}, {2024, 2, 30}, {2000, 2, 30}, {2026, 4, 31}, {2026, 6, 31}, {2026, 9, 31}, {2026, 11, 31}} {
		n, e := calendar.Day(row[0], row[1], row[2])
		is(t, fmt.Sprint("Day of ", row), n, 0)
		is(t, fmt.Sprint("Day of ", row), e, api.ErrNone)
	}
}

// P1.1
func TestDatesOfNoDay(t *testing.T) {
	for _, day := range outsideDays {
		d, e := calendar.Date(day)
		is(t, "Date", d, [3]int{})
		is(t, "Date", e, api.ErrRange)
		w, e := calendar.Weekday(day)
		is(t, "Weekday", w, 0)
		is(t, "Weekday", e, api.ErrRange)
		s, e := calendar.PrintDate(day)
		is(t, "PrintDate", s, "")
		is(t, "PrintDate", e, api.ErrRange)
	}
}

// P1.1: each byte of the text of a date is replaced by each other one.
func TestParseDateBytes(t *testing.T) {
	const text = "2026-03-29"
	for i := range len(text) {
		for b := range 256 {
			s := text[:i] + string([]byte{byte(b)}) + text[i+1:]
			n, e := calendar.ParseDate(s)
			isDash := i == 4 || i == 7
			if isDash && b == '-' || !isDash && '0' <= b && b <= '9' {
				if e == api.ErrSyntax {
					t.Errorf("ParseDate(%q): got ErrSyntax", s)
				}
				continue
			}
			if n != 0 || e != api.ErrSyntax {
				t.Errorf("ParseDate(%q): got %d %d, want ErrSyntax", s, n, e)
			}
		}
	}
}

// P1.1
func TestParseDateErrors(t *testing.T) {
	for _, row := range []struct {
		s string
		e api.Errno
	}{
		{"", api.ErrSyntax}, {"2", api.ErrSyntax}, {"2026-03-2", api.ErrSyntax}, {"2026-03-299", api.ErrSyntax}, {"2026-03-29 ", api.ErrSyntax}, {" 2026-03-29", api.ErrSyntax},
		{"2026-3-29", api.ErrSyntax}, {"2026-03-9", api.ErrSyntax}, {"02026-03-29", api.ErrSyntax}, {"20260329", api.ErrSyntax}, {"2026032900", api.ErrSyntax}, {"2026/03/29", api.ErrSyntax},
		{"29-03-2026", api.ErrSyntax}, {"+026-03-29", api.ErrSyntax}, {"-026-03-29", api.ErrSyntax}, {"2026--3-29", api.ErrSyntax}, {"2026-+3-29", api.ErrSyntax}, {"2026-03- 9", api.ErrSyntax},
		{"----------", api.ErrSyntax}, {"\x00\x00\x00\x00-\x00\x00-\x00\x00", api.ErrSyntax}, {"202\u0661-03-2", api.ErrSyntax}, {"2026-03-\u0661", api.ErrSyntax}, {"\u0662\u0660\u0662\u0666-\u0660\u0663-\u0662\u0669", api.ErrSyntax}, {"\xff\xff\xff\xff-\xff\xff-\xff\xff", api.ErrSyntax},
		{"9999-99-9x", api.ErrSyntax}, {"0000-00-00", api.ErrRange}, {"9999-99-99", api.ErrRange}, {"1999-12-31", api.ErrRange}, {"2274-01-01", api.ErrRange}, {"2026-00-10", api.ErrRange}, {"2026-13-10", api.ErrRange},
		{"2026-01-00", api.ErrRange}, {"2026-01-32", api.ErrRange}, {"2274-02-30", api.ErrRange}, {"2026-02-30", api.ErrNone}, {"2100-02-29", api.ErrNone}, {"2273-10-16", api.ErrNone}, {"2273-12-31", api.ErrNone},
		{strings.Repeat("0", 5000), api.ErrSyntax},
	} {
		n, e := calendar.ParseDate(row.s)
		is(t, fmt.Sprintf("ParseDate(%q)", row.s), n, 0)
		is(t, fmt.Sprintf("ParseDate(%q)", row.s), e, row.e)
	}
}

// maskText puts the text of a mask together from its weekdays.
func maskText(mask int) string {
	s := ""
	for w := range 7 {
		if mask&(1<<w) != 0 {
			s += fmt.Sprint(w + 1)
		} else {
			s += "0"
		}
	}
	return s
}

// P1.1: every mask, there and back, and numbers that are none.
func TestMasks(t *testing.T) {
	s, e := calendar.PrintMask(96)
	is(t, "PrintMask(96)", s, "0000067")
	is(t, "PrintMask(96)", e, api.OK)
	for mask := 1; mask <= 127; mask++ {
		s, e := calendar.PrintMask(mask)
		is(t, "PrintMask", s, maskText(mask))
		is(t, "PrintMask", e, api.OK)
		n, e := calendar.ParseMask(maskText(mask))
		is(t, "ParseMask", n, mask)
		is(t, "ParseMask", e, api.OK)
	}
	for _, mask := range []int{math.MinInt, -128, -1, 0, 128, 129, 255, 256, math.MaxInt} {
		s, e := calendar.PrintMask(mask)
		is(t, "PrintMask of no mask", s, "")
		is(t, "PrintMask of no mask", e, api.ErrRange)
	}
}

// P1.1: each byte of the texts of masks is replaced by each other one.
func TestParseMaskBytes(t *testing.T) {
	valid := map[string]int{}
	for mask := 1; mask <= 127; mask++ {
		valid[maskText(mask)] = mask
	}
	for _, text := range []string{"1234567", "0000067", "1000000", "0000007", "0000000"} {
		for i := range len(text) {
			for b := range 256 {
				s := text[:i] + string([]byte{byte(b)}) + text[i+1:]
				n, e := calendar.ParseMask(s)
				want := api.ErrSyntax
				if valid[s] != 0 {
					want = api.OK
				}
				if n != valid[s] || e != want {
					t.Errorf("ParseMask(%q): got %d %d, want %d %d", s, n, e, valid[s], want)
				}
			}
		}
	}
	for _, s := range []string{"", "0", "1", "67", "123456", "12345670", "01234567", "1234567 ", " 234567", "0000000", "0000076", "7654321", "1111111", "123456\u0667", "\xff234567", "1\u0662\u06637", strings.Repeat("0", 5000)} {
		n, e := calendar.ParseMask(s)
		is(t, fmt.Sprintf("ParseMask(%q)", s), n, 0)
		is(t, fmt.Sprintf("ParseMask(%q)", s), e, api.ErrSyntax)
	}
}

// P1.1: each byte alone, and after a letter.
func TestNameBytes(t *testing.T) {
	for b := range 256 {
		letter := 'A' <= b && b <= 'Z' || 'a' <= b && b <= 'z'
		later := letter || '0' <= b && b <= '9' || b == '_'
		s := string([]byte{byte(b)})
		is(t, fmt.Sprintf("IsName(%q)", s), calendar.IsName(s), letter)
		is(t, fmt.Sprintf("IsName(%q)", s+"a"), calendar.IsName(s+"a"), letter)
		is(t, fmt.Sprintf("IsName(%q)", "a"+s), calendar.IsName("a"+s), later)
		is(t, fmt.Sprintf("IsName(%q)", "Z"+s+"9"), calendar.IsName("Z"+s+"9"), later)
	}
}

// P1.1
func TestNames(t *testing.T) {
	for _, row := range []struct {
		s    string
		name bool
	}{
		{"a", true}, {"Z", true}, {"a_9", true}, {"A1", true}, {"x__", true}, {"AbCdEfGhIjKlMnOpQrStUvWx", true}, {"z23456789012345678901234", true},
		{"", false}, {"9a", false}, {"_a", false}, {"a b", false}, {"a-b", false}, {"a.b", false}, {"\u00e4", false}, {"a\u00e4", false}, {"a\u0661", false}, {"\u212a", false}, {"a\xff", false}, {"a\x00", false},
		{strings.Repeat("a", 24), true}, {strings.Repeat("a", 25), false}, {strings.Repeat("a", 5000), false}, {strings.Repeat("a", 23) + "-", false}, {strings.Repeat("a", 23) + "_", true},
	} {
		is(t, fmt.Sprintf("IsName(%q)", row.s), calendar.IsName(row.s), row.name)
	}
	for n := range 40 {
		is(t, fmt.Sprint("IsName of length ", n), calendar.IsName(strings.Repeat("q", n)), 1 <= n && n <= 24)
	}
}
