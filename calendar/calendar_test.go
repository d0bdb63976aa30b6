package calendar

import (
	"fmt"
	"math"
	"regexp"
	"slices"
	"strings"
	"testing"
	"time"

	"reportescrow/api"
)

// strange are numbers that are no days, no years, no months, or lead to sums that do not fit.
var strange = []int{math.MinInt, math.MinInt + 1, -1 << 32, -api.MaxDay, -10000, -9999, -400, -101, -100, -4, -2, -1, 0, 1, 2, 4, 12, 13, 28, 29, 31, 32, 100, 101, 400, 2000, 2024, 9998, 9999, 10000, 10001, api.MaxDay - 1, api.MaxDay, api.MaxDay + 1, 1 << 32, 1<<32 + 1, 1 << 62, math.MaxInt - 9999, math.MaxInt - 1, math.MaxInt}

// noDays are the numbers of no days.
var noDays = []int{math.MinInt, math.MinInt + 1, -api.MaxDay, -366, -365, -2, -1, api.MaxDay + 1, api.MaxDay + 2, api.MaxDay + 366, 1 << 31, 1 << 32, 1<<32 + 5, 1 << 62, math.MaxInt - 1, math.MaxInt}

// bounds are years around which the rule of leap years changes, and both ends of the calendar.
var bounds = []int{1, 2, 3, 4, 5, 99, 100, 101, 399, 400, 401, 1582, 1752, 1899, 1900, 1904, 1999, 2000, 2001, 2023, 2024, 9599, 9600, 9896, 9899, 9900, 9995, 9996, 9997, 9998, 9999}

// dates are months and days at which something begins or ends.
var dates = [][2]int{{1, 1}, {1, 31}, {2, 1}, {2, 28}, {2, 29}, {3, 1}, {4, 30}, {6, 15}, {12, 31}}

// monthLength is how long a month is by the rule that children learn.
func monthLength(year, month int) int {
	switch month {
	case 4, 6, 9, 11:
		return 30
	case 2:
		if year%400 == 0 || year%100 != 0 && year%4 == 0 {
			return 29
		}
		return 28
	}
	return 31
}

// there tells whether there is such a date, as Go's own calendar moves one that is none to another one.
func there(year, month, day int) bool {
	x := time.Date(year, time.Month(month), day, 0, 0, 0, 0, time.UTC)
	return year >= 1 && year <= 9999 && x.Year() == year && x.Month() == time.Month(month) && x.Day() == day
}

// number is the number of a date by Go's own calendar.
func number(year, month, day int) int {
	start := time.Date(1, 1, 1, 0, 0, 0, 0, time.UTC).Unix()
	return int((time.Date(year, time.Month(month), day, 0, 0, 0, 0, time.UTC).Unix() - start) / 86400)
}

// moved is the day of a date in another year by Go's own calendar.
func moved(year, month, day int) (int, api.Errno) {
	if year < 1 || year > 9999 {
		return 0, api.ErrDate
	}
	if month == 2 && day == 29 && !there(year, 2, 29) {
		day = 28
	}
	return number(year, month, day), api.OK
}

// P10.1

func TestLeap(t *testing.T) {
	for year := 1; year <= 9999; year++ {
		if Leap(year) != (time.Date(year, 12, 31, 0, 0, 0, 0, time.UTC).YearDay() == 366) {
			t.Error("Leap", year, Leap(year))
		}
	}
	for i, x := range []struct {
		year int
		want bool
	}{
		{1, false}, {2, false}, {3, false}, {4, true}, {5, false}, {8, true}, {96, true}, {100, false}, {200, false}, {300, false}, {400, true}, {1582, false}, {1600, true}, {1700, false}, {1800, false}, {1900, false}, {1996, true}, {2000, true}, {2023, false}, {2024, true}, {2100, false}, {9600, true}, {9900, false}, {9996, true}, {9999, false},
	} {
		if Leap(x.year) != x.want {
			t.Error("Leap", i, x.year)
		}
	}
}

// Years that would be leap years by the rule, but are none of the calendar.
func TestNoLeapYearElsewhere(t *testing.T) {
	for year := -2000; year <= 0; year++ {
		if Leap(year) || Leap(9999+1-year) {
			t.Error("Leap", year)
		}
	}
	for _, year := range []int{math.MinInt, math.MinInt + 4, -400, -4, 0, 10000, 10004, 12000, 1<<32 + 4, 1 << 62, math.MaxInt - 3, math.MaxInt} {
		if Leap(year) {
			t.Error("Leap", year)
		}
	}
}

// Every day of the calendar, one after the other.
func TestEveryDay(t *testing.T) {
	year, month, day := 1, 1, 1
	for n := 0; n <= api.MaxDay; n++ {
		text := fmt.Sprintf("%04d-%02d-%02d", year, month, day)
		if y, m, d, e := Date(n); e != api.OK || y != year || m != month || d != day {
			t.Fatal("Date", n, text, y, m, d, e)
		}
		if k, e := Day(year, month, day); e != api.OK || k != n {
			t.Fatal("Day", n, text, k, e)
		}
		if s, e := Text(n); e != api.OK || s != text {
			t.Fatal("Text", n, text, s, e)
		}
		if k, e := Parse(text); e != api.OK || k != n {
			t.Fatal("Parse", n, text, k, e)
		}
		day++
		if day > monthLength(year, month) {
			day = 1
			month++
		}
		if month > 12 {
			month = 1
			year++
		}
	}
	if year != 10000 || month != 1 || day != 1 {
		t.Error("the last day is not December 31, 9999", year, month, day)
	}
}

func TestDayExamples(t *testing.T) {
	for i, x := range []struct {
		year, month, day, want int
		text                   string
	}{
		{1, 1, 1, 0, "0001-01-01"}, {1, 12, 31, 364, "0001-12-31"}, {2, 1, 1, 365, "0002-01-01"}, {1, 2, 28, 58, "0001-02-28"}, {1, 3, 1, 59, "0001-03-01"}, {4, 2, 29, 1154, "0004-02-29"}, {4, 12, 31, 1460, "0004-12-31"},
		{101, 1, 1, 36524, "0101-01-01"}, {401, 1, 1, 146097, "0401-01-01"}, {1970, 1, 1, 719162, "1970-01-01"}, {2000, 2, 29, 730178, "2000-02-29"}, {2024, 10, 9, 739167, "2024-10-09"}, {9999, 12, 31, api.MaxDay, "9999-12-31"}, {9999, 1, 1, api.MaxDay - 364, "9999-01-01"},
	} {
		if number(x.year, x.month, x.day) != x.want {
			t.Error("the example is wrong", i)
		}
		if n, e := Day(x.year, x.month, x.day); e != api.OK || n != x.want {
			t.Error("Day", i, n, e)
		}
		if y, m, d, e := Date(x.want); e != api.OK || y != x.year || m != x.month || d != x.day {
			t.Error("Date", i, y, m, d, e)
		}
		if s, e := Text(x.want); e != api.OK || s != x.text {
			t.Error("Text", i, s, e)
		}
		if n, e := Parse(x.text); e != api.OK || n != x.want {
			t.Error("Parse", i, n, e)
		}
	}
}

// All numbers that look like dates, of all years and of some beyond them.
func TestWhatIsADate(t *testing.T) {
	for year := -1; year <= 10001; year++ {
		for month := -1; month <= 14; month++ {
			for day := -1; day <= 33; day++ {
				n, e := Day(year, month, day)
				if there(year, month, day) {
					if e != api.OK || n != number(year, month, day) {
						t.Fatal("Day", year, month, day, n, e)
					}
				} else if e != api.ErrDate || n != 0 {
					t.Fatal("Day", year, month, day, n, e)
				}
			}
		}
	}
}

// Three of the strange numbers are a date only where each one is small.
func TestStrangeNumbersAreNoDate(t *testing.T) {
	for _, year := range strange {
		for _, month := range strange {
			for _, day := range strange {
				ok := year >= 1 && year <= 9999 && month >= 1 && month <= 12 && day >= 1 && day <= 31 && there(year, month, day)
				n, e := Day(year, month, day)
				if ok && (e != api.OK || n != number(year, month, day)) || !ok && (e != api.ErrDate || n != 0) {
					t.Error("Day", year, month, day, n, e)
				}
			}
		}
	}
}

func TestNumbersOfNoDay(t *testing.T) {
	for _, n := range noDays {
		if y, m, d, e := Date(n); e != api.ErrRange || y != 0 || m != 0 || d != 0 {
			t.Error("Date", n, y, m, d, e)
		}
		if s, e := Text(n); e != api.ErrRange || s != "" {
			t.Error("Text", n, s, e)
		}
	}
}

var form = regexp.MustCompile(`\A[0-9]{4}-[0-9]{2}-[0-9]{2}\z`)

// readText is what Parse returns, by the form of a text and Go's own calendar.
func readText(s string) (int, api.Errno) {
	var year, month, day int
	if !form.MatchString(s) {
		return 0, api.ErrDate
	}
	if _, err := fmt.Sscanf(s, "%04d-%02d-%02d", &year, &month, &day); err != nil || !there(year, month, day) {
		return 0, api.ErrDate
	}
	return number(year, month, day), api.OK
}

func checkParse(t *testing.T, s string) {
	want, wanted := readText(s)
	if n, e := Parse(s); e != wanted || n != want {
		t.Errorf("Parse %q: %d %d", s, n, e)
	}
}

// Each byte of a text becomes each other one, is left out, and has another one before it.
func TestParseOfWrongBytes(t *testing.T) {
	for _, s := range []string{"2024-02-29", "2023-02-28", "0001-01-01", "9999-12-31", "1900-10-10", "2000-11-30", "0010-09-09", "-2024-02-29", "2024--2-29", "00000000-0"} {
		for i := range len(s) + 1 {
			for c := range 256 {
				between := s[:i] + string([]byte{byte(c)})
				checkParse(t, between+s[i:])
				if i < len(s) {
					checkParse(t, between+s[i+1:])
					checkParse(t, between+s[:i]+s[i+1:])
				}
			}
			checkParse(t, s[:i])
			checkParse(t, s[i:])
			checkParse(t, s[i:]+s[:i])
		}
	}
}

// All texts of a month and a day, in some years.
func TestParseOfAllDigits(t *testing.T) {
	for _, year := range []string{"0000", "0001", "0004", "0100", "1900", "2000", "2023", "2024", "9996", "9999"} {
		for month := range 100 {
			for day := range 100 {
				checkParse(t, fmt.Sprintf("%s-%02d-%02d", year, month, day))
			}
		}
	}
	for year := range 10000 {
		checkParse(t, fmt.Sprintf("%04d-02-29", year))
		checkParse(t, fmt.Sprintf("%04d-12-31", year))
	}
}

func TestParseErrors(t *testing.T) {
	for i, s := range []string{
		"", "-", "--", "x", "2024", "2024-01", "2024-01-", "2024-01-1", "2024-1-01", "2024-1-1", "24-01-01", "024-01-01", "02024-01-01", "2024-001-1", "2024-01-001", "20240101", "2024-0101", "202401-01", "10000-01-01", "10000-1-01",
		"2024/01/01", "2024.01.01", "2024-01/01", "2024/01-01", "01-01-2024", "2024-01-01-", "-2024-01-01", "-024-01-01", "+024-01-01", "2024-+1-01", "2024-01-+1", "2024--1-01", "2024-01--1", "2024- 1-01", " 024-01-01", "024 -01-01", "2024-01-1 ", "2024-01-01 ", " 2024-01-01", "2024-01-01\n", "2024-01-01\x00", "\x00024-01-01", "2024-01-\xff1",
		"0000-01-01", "2024-00-01", "2024-13-01", "2024-01-00", "2024-01-32", "2024-02-30", "2023-02-29", "1900-02-29", "2024-04-31", "2024-99-99", "9999-12-32", "0000-00-00", "2024-31-12",
		"2_24-01-01", "20_4-01-01", "0x18-01-01", "0b11-01-01", "1e03-01-01", "2e03-01-01", "2024-0x-01", "2024-1.-01", "2024-01-.1", "2024-01-1e", "yyyy-mm-dd", "NaNx-01-01", "2024-Ja-01",
		"٢٠-01-01", "2024-٢-01", "２4-01-01", "2024-01-²", "²²-01-01", "2024\u201001-01", "2024-01-01T00:00:00Z",
		strings.Repeat("0", 1<<16), strings.Repeat("-", 1<<16), "2024-01-01" + strings.Repeat("1", 1<<16), strings.Repeat("0", 1<<16) + "2024-01-01", strings.Repeat("9", 10), strings.Repeat("-", 10), strings.Repeat("\xff", 10), strings.Repeat("\x00", 10),
	} {
		if n, e := Parse(s); e != api.ErrDate || n != 0 {
			t.Errorf("Parse %d %q: %d %d", i, s[:min(len(s), 30)], n, e)
		}
	}
}

// P10.2: Add

func checkAdd(t *testing.T, year, month, day, years int) {
	t.Helper()
	want, wanted := moved(year+years, month, day)
	if n, e := Add(number(year, month, day), years); e != wanted || n != want {
		t.Error("Add", year, month, day, years, n, e)
	}
}

// From the bounds, all numbers of years that may be added.
func TestAddAllYears(t *testing.T) {
	for _, year := range bounds {
		for _, x := range dates {
			if !there(year, x[0], x[1]) {
				continue
			}
			for years := -9999; years <= 9999; years++ {
				checkAdd(t, year, x[0], x[1], years)
			}
		}
	}
}

// Every February 29 there is, every February 28 and every March 1, and a few years more or less.
func TestAddAroundLeapDays(t *testing.T) {
	for year := 1; year <= 9999; year++ {
		for _, years := range []int{-400, -100, -99, -96, -8, -4, -3, -2, -1, 0, 1, 2, 3, 4, 8, 96, 99, 100, 400} {
			checkAdd(t, year, 2, 28, years)
			checkAdd(t, year, 3, 1, years)
			if there(year, 2, 29) {
				checkAdd(t, year, 2, 29, years)
			}
		}
	}
}

func TestAddToEveryDayOfSomeYears(t *testing.T) {
	for _, year := range bounds {
		for month := 1; month <= 12; month++ {
			for day := 1; day <= monthLength(year, month); day++ {
				for _, years := range []int{-9998, -2000, -100, -5, -1, 0, 1, 4, 7, 100, 500, 9998} {
					checkAdd(t, year, month, day, years)
				}
			}
		}
	}
}

func TestAddExamples(t *testing.T) {
	for i, x := range []struct {
		from  string
		years int
		want  string
	}{
		{"2024-02-29", 1, "2025-02-28"}, {"2024-02-29", -1, "2023-02-28"}, {"2024-02-29", 4, "2028-02-29"}, {"2024-02-29", -4, "2020-02-29"}, {"2024-02-29", -124, "1900-02-28"}, {"2000-02-29", 100, "2100-02-28"}, {"2000-02-29", 400, "2400-02-29"}, {"2000-02-29", -400, "1600-02-29"}, {"2024-02-29", 0, "2024-02-29"},
		{"2023-02-28", 1, "2024-02-28"}, {"2023-03-01", 1, "2024-03-01"}, {"2024-03-01", 1, "2025-03-01"}, {"2024-12-31", 1, "2025-12-31"}, {"2024-01-31", -1, "2023-01-31"}, {"0001-01-01", 9998, "9999-01-01"}, {"9999-12-31", -9998, "0001-12-31"}, {"9996-02-29", -9995, "0001-02-28"}, {"0004-02-29", 9995, "9999-02-28"}, {"0005-06-07", 0, "0005-06-07"},
	} {
		from, e := Parse(x.from)
		if e != api.OK {
			t.Error("Parse", i, e)
		}
		n, e := Add(from, x.years)
		if e != api.OK {
			t.Error("Add", i, e)
		}
		if s, _ := Text(n); s != x.want {
			t.Error("Add", i, s)
		}
	}
}

func TestAddErrors(t *testing.T) {
	for i, x := range []struct {
		n, years int
		want     api.Errno
	}{
		{-1, 0, api.ErrRange}, {-1, 1, api.ErrRange}, {api.MaxDay + 1, 0, api.ErrRange}, {api.MaxDay + 1, -1, api.ErrRange}, {-1, -9999, api.ErrRange}, {api.MaxDay + 1, 9999, api.ErrRange}, {-1, 10000, api.ErrRange},
		{0, 10000, api.ErrRange}, {0, -10000, api.ErrRange}, {api.MaxDay, 10000, api.ErrRange}, {api.MaxDay, -10000, api.ErrRange}, {5, 1 << 62, api.ErrRange}, {5, math.MaxInt, api.ErrRange}, {5, math.MinInt, api.ErrRange}, {5, 1 << 32, api.ErrRange}, {api.MaxDay, math.MaxInt, api.ErrRange}, {0, math.MinInt, api.ErrRange},
		{0, 9999, api.ErrDate}, {0, -9999, api.ErrDate}, {api.MaxDay, 9999, api.ErrDate}, {api.MaxDay, -9999, api.ErrDate}, {0, -1, api.ErrDate}, {364, -1, api.ErrDate}, {365, -2, api.ErrDate}, {1154, -4, api.ErrDate}, {api.MaxDay, 1, api.ErrDate}, {api.MaxDay - 364, 1, api.ErrDate}, {api.MaxDay - 365, 2, api.ErrDate}, {number(9996, 2, 29), 4, api.ErrDate}, {number(2024, 2, 29), 7976, api.ErrDate}, {number(2024, 2, 29), -2024, api.ErrDate},
		{0, 0, api.OK}, {0, 9998, api.OK}, {api.MaxDay, -9998, api.OK}, {api.MaxDay, 0, api.OK}, {365, -1, api.OK}, {api.MaxDay - 365, 1, api.OK},
	} {
		if n, e := Add(x.n, x.years); e != x.want || e != api.OK && n != 0 {
			t.Error("Add", i, n, e)
		}
	}
	for _, n := range noDays {
		for _, years := range strange {
			if k, e := Add(n, years); e != api.ErrRange || k != 0 {
				t.Error("Add", n, years, k, e)
			}
		}
	}
	for _, years := range strange {
		if years >= -9999 && years <= 9999 {
			continue
		}
		for _, n := range []int{0, 58, 1154, 730178, api.MaxDay} {
			if k, e := Add(n, years); e != api.ErrRange || k != 0 {
				t.Error("Add", n, years, k, e)
			}
		}
	}
}

// P10.2: Within

func checkWithin(t *testing.T, a, b, years int, want bool) {
	t.Helper()
	if Within(a, b, years) != want || Within(b, a, years) != want {
		t.Error("Within", a, b, years, want)
	}
}

// Around the last day that is within so many years, for all numbers of years.
func TestWithinToTheDay(t *testing.T) {
	for _, year := range bounds {
		for _, x := range dates {
			if !there(year, x[0], x[1]) {
				continue
			}
			a := number(year, x[0], x[1])
			for years := 0; years <= api.MaxYears; years++ {
				last, e := moved(year+years, x[0], x[1])
				if e != api.OK {
					last = api.MaxDay
				}
				for b := max(a, last-2); b <= min(last+3, api.MaxDay); b++ {
					checkWithin(t, a, b, years, b <= last)
				}
				checkWithin(t, a, api.MaxDay, years, api.MaxDay <= last)
				checkWithin(t, a, a, years, true)
			}
		}
	}
}

func TestWithinExamples(t *testing.T) {
	for i, x := range []struct {
		a, b  string
		years int
		want  bool
	}{
		{"2020-02-29", "2021-02-28", 1, true}, {"2020-02-29", "2021-03-01", 1, false}, {"2020-02-29", "2024-02-29", 4, true}, {"2020-02-29", "2024-03-01", 4, false}, {"2019-02-28", "2020-02-28", 1, true}, {"2019-02-28", "2020-02-29", 1, false}, {"2019-03-01", "2020-03-01", 1, true}, {"2019-03-01", "2020-03-02", 1, false},
		{"2020-05-05", "2020-05-05", 0, true}, {"2020-05-05", "2020-05-06", 0, false}, {"2020-05-05", "2020-05-06", 1, true}, {"1900-01-01", "2000-01-01", 100, true}, {"1900-01-01", "2000-01-02", 100, false}, {"1900-01-01", "2000-01-01", 99, false},
		{"0001-01-01", "9999-12-31", 100, false}, {"9899-12-31", "9999-12-31", 100, true}, {"9899-12-30", "9999-12-31", 100, false}, {"9900-01-01", "9999-12-31", 100, true}, {"9999-06-01", "9999-12-31", 1, true}, {"9999-06-01", "9999-12-31", 0, false}, {"9999-12-31", "9999-12-31", 0, true}, {"0001-01-01", "0001-01-01", 0, true},
	} {
		a, e := Parse(x.a)
		b, g := Parse(x.b)
		if e != api.OK || g != api.OK || Within(a, b, x.years) != x.want || Within(b, a, x.years) != x.want {
			t.Error("Within", i, e, g)
		}
	}
}

// Days that are none, and numbers of years that are too small or too great, are never within.
func TestWithinOfOthers(t *testing.T) {
	days := []int{0, 1, 364, 1154, 730178, api.MaxDay - 1, api.MaxDay}
	for _, n := range noDays {
		for _, years := range slices.Concat(strange, []int{0, 1, 50, 100}) {
			for _, a := range days {
				checkWithin(t, a, n, years, false)
			}
			for _, m := range noDays {
				checkWithin(t, m, n, years, false)
			}
		}
	}
	for _, years := range slices.Concat(strange, []int{-1, -100, 101, 102, 9999}) {
		if years >= 0 && years <= api.MaxYears {
			continue
		}
		for _, a := range days {
			for _, b := range days {
				checkWithin(t, a, b, years, false)
			}
		}
	}
	checkWithin(t, 5, 5, 100, true)
	checkWithin(t, 5, 5, 0, true)
}

// Consequences: the order of the days does not matter, and more years never take it away.
func TestMoreYearsNeverTakeItAway(t *testing.T) {
	for a := 0; a <= api.MaxDay; a += 4999 {
		for _, apart := range []int{0, 1, 364, 365, 366, 367, 730, 731, 1460, 1461, 18262, 18263, 36523, 36524, 36525, 36526, 40000} {
			b := min(a+apart, api.MaxDay)
			before := false
			for years := 0; years <= api.MaxYears; years++ {
				now := Within(a, b, years)
				if now != Within(b, a, years) || before && !now {
					t.Fatal("Within", a, b, years)
				}
				before = now
			}
			if apart <= 36524 && !before || b-a > 36525 && before {
				t.Error("Within", a, b)
			}
		}
	}
}

// P1: nothing panics, and the same arguments have the same results.

func TestStrangeArguments(t *testing.T) {
	for _, a := range strange {
		_, _, _, e := Date(a)
		if _, f := Text(a); e != f || e != api.OK && e != api.ErrRange {
			t.Error("Date", a, e, f)
		}
		for _, b := range strange {
			n, e := Add(a, b)
			if k, f := Add(a, b); k != n || f != e || e != api.OK && n != 0 {
				t.Error("Add", a, b, n, k, e, f)
			}
			for _, c := range strange {
				if Within(a, b, c) != Within(b, a, c) {
					t.Error("Within", a, b, c)
				}
				n, e := Day(a, b, c)
				if k, f := Day(a, b, c); k != n || f != e || e != api.OK && n != 0 {
					t.Error("Day", a, b, c, n, k, e, f)
				}
			}
		}
	}
}
