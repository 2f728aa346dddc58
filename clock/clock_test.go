package clock

import (
	"math"
	"testing"
	"time"

	"pigeonhole/api"
)

// last is the last time.
const last = 253402300799

// wild are numbers at the edges of what an int has, and some that come back into what is right, if they wrap round.
var wild = []int{math.MinInt, math.MinInt + 1, -1 << 40, -1 << 32, -1, 1 << 31, 1 << 32, 1 << 37, 1 << 52, 1 << 62, math.MaxInt - 1, math.MaxInt}

// outside are numbers that are no times.
var outside = []int{math.MinInt, math.MinInt + 1, -last, -1 << 32, -86400, -2, -1, last + 1, last + 2, last + 86400, 2 * last, 1<<32*86400 + 5, 1 << 52, 1 << 62, math.MaxInt - 1, math.MaxInt}

// plainLeap tells whether a year is a leap year, by the chapter's words.
func plainLeap(year int) bool {
	if year%100 == 0 {
		return year%400 == 0
	}
	return year%4 == 0
}

// plainDays is how many days a month of a year has.
func plainDays(year, month int) int {
	switch month {
	case 2:
		if plainLeap(year) {
			return 29
		}
		return 28
	case 4, 6, 9, 11:
		return 30
	}
	return 31
}

// known is the date of a time, as the library has it.
func known(t int) api.Civil {
	d := time.Unix(int64(t), 0).UTC()
	return api.Civil{Year: d.Year(), Month: int(d.Month()), Day: d.Day(), Hour: d.Hour(), Minute: d.Minute(), Second: d.Second(), Week: (int(d.Weekday()) + 6) % 7}
}

// dated fails, unless a time has a date, and that one tells it again.
func dated(t *testing.T, n int, want api.Civil) {
	t.Helper()
	if c, ok := Civil(n); c != want || !ok {
		t.Fatalf("Civil(%d): %v %v, not %v", n, c, ok, want)
	}
	if m, ok := Seconds(want); m != n || !ok {
		t.Fatalf("Seconds(%v): %d %v, not %d", want, m, ok, n)
	}
}

// undated fails, unless what isn't the date of a time is refused.
func undated(t *testing.T, c api.Civil) {
	t.Helper()
	if n, ok := Seconds(c); n != 0 || ok {
		t.Errorf("Seconds(%v): %d %v", c, n, ok)
	}
}

// P9.1: leap years from 1970 to 9999, none outside.
func TestLeap(t *testing.T) {
	for year := -12000; year < 22000; year++ {
		want := year >= 1970 && year <= 9999 && plainLeap(year)
		if Leap(year) != want {
			t.Errorf("Leap(%d): %v", year, !want)
		}
	}
	for year, want := range map[int]bool{1972: true, 1999: false, 2000: true, 2004: true, 2100: false, 2200: false, 2400: true, 9996: true, 9999: false, 1968: false, 1600: false, 10000: false, 12000: false, 0: false, -4: false} {
		if Leap(year) != want {
			t.Errorf("Leap(%d): %v", year, !want)
		}
	}
	for _, year := range wild {
		if Leap(year) || Leap(year&^3) || Leap(year-year%400) {
			t.Errorf("Leap near %d", year)
		}
	}
}

// P9.1: how many days the months have; 0 of others, and of years outside.
func TestDays(t *testing.T) {
	for year := 1900; year < 10100; year++ {
		for month := -13; month < 30; month++ {
			want := 0
			if year >= 1970 && year <= 9999 && month >= 1 && month <= 12 {
				want = plainDays(year, month)
			}
			if n := Days(year, month); n != want {
				t.Fatalf("Days(%d, %d): %d, not %d", year, month, n, want)
			}
		}
	}
	for _, n := range wild {
		if Days(n, 1) != 0 || Days(n, 2) != 0 || Days(2000, n) != 0 || Days(n, n) != 0 {
			t.Errorf("Days of %d", n)
		}
	}
}

// P9.2: dates that are known, those at the edges among them.
func TestCivilKnown(t *testing.T) {
	for n, want := range map[int]api.Civil{
		0:            {Year: 1970, Month: 1, Day: 1, Week: 3},
		1:            {Year: 1970, Month: 1, Day: 1, Second: 1, Week: 3},
		86399:        {Year: 1970, Month: 1, Day: 1, Hour: 23, Minute: 59, Second: 59, Week: 3},
		86400:        {Year: 1970, Month: 1, Day: 2, Week: 4},
		4 * 86400:    {Year: 1970, Month: 1, Day: 5, Week: 0},
		31535999:     {Year: 1970, Month: 12, Day: 31, Hour: 23, Minute: 59, Second: 59, Week: 3},
		31536000:     {Year: 1971, Month: 1, Day: 1, Week: 4},
		68169600:     {Year: 1972, Month: 2, Day: 29, Week: 1},
		68256000:     {Year: 1972, Month: 3, Day: 1, Week: 2},
		951782399:    {Year: 2000, Month: 2, Day: 28, Hour: 23, Minute: 59, Second: 59, Week: 0},
		951782400:    {Year: 2000, Month: 2, Day: 29, Week: 1},
		951868800:    {Year: 2000, Month: 3, Day: 1, Week: 2},
		978220800:    {Year: 2000, Month: 12, Day: 31, Week: 6},
		1234567890:   {Year: 2009, Month: 2, Day: 13, Hour: 23, Minute: 31, Second: 30, Week: 4},
		1 << 31:      {Year: 2038, Month: 1, Day: 19, Hour: 3, Minute: 14, Second: 8, Week: 1},
		4107542399:   {Year: 2100, Month: 2, Day: 28, Hour: 23, Minute: 59, Second: 59, Week: 6},
		4107542400:   {Year: 2100, Month: 3, Day: 1, Week: 0},
		1 << 32:      {Year: 2106, Month: 2, Day: 7, Hour: 6, Minute: 28, Second: 16, Week: 6},
		last - 86399: {Year: 9999, Month: 12, Day: 31, Week: 4},
		last:         {Year: 9999, Month: 12, Day: 31, Hour: 23, Minute: 59, Second: 59, Week: 4},
	} {
		dated(t, n, want)
	}
}

// P9.2: what is no time has no date.
func TestCivilOutside(t *testing.T) {
	for _, n := range outside {
		if c, ok := Civil(n); c != (api.Civil{}) || ok {
			t.Errorf("Civil(%d): %v %v", n, c, ok)
		}
	}
}

// P9.2, P9.4: each day of all, one behind the other, at some second: its date, which tells it again, and the next day of the week.
func TestEachDay(t *testing.T) {
	n, week := 0, 3
	for year := 1970; year <= 9999; year++ {
		for month := 1; month <= 12; month++ {
			for day := 1; day <= plainDays(year, month); day++ {
				second := n * 7919 % 86400
				dated(t, n*86400+second, api.Civil{Year: year, Month: month, Day: day, Hour: second / 3600, Minute: second / 60 % 60, Second: second % 60, Week: week})
				n, week = n+1, (week+1)%7
			}
		}
	}
	if n*86400 != last+1 {
		t.Errorf("%d days", n)
	}
}

// P9.2, P9.4: each second of some days.
func TestEachSecond(t *testing.T) {
	for _, first := range []int{0, 951782400, 4107456000, last - 86399} {
		for i := range 86400 {
			dated(t, first+i, known(first+i))
		}
	}
}

// P9.2, P9.4: times far apart, and the seconds at the beginning of each year, are dated as the library dates them.
func TestCivilFar(t *testing.T) {
	for n := 0; n <= last; n += 1299709 {
		dated(t, n, known(n))
	}
	for year := 1970; year <= 9999; year++ {
		first := int(time.Date(year, 1, 1, 0, 0, 0, 0, time.UTC).Unix())
		for n := max(0, first-2); n < first+2; n++ {
			dated(t, n, known(n))
		}
	}
}

// P9.2: the date of a time with another day of the week is none.
func TestSecondsWeek(t *testing.T) {
	for n := 0; n <= last; n += 86400*400 + 12345 {
		for week := -8; week < 15; week++ {
			c := known(n)
			if week == c.Week {
				continue
			}
			c.Week = week
			undated(t, c)
		}
	}
}

// parts are the parts of a date, to be written over.
func parts(c *api.Civil) []*int {
	return []*int{&c.Year, &c.Month, &c.Day, &c.Hour, &c.Minute, &c.Second, &c.Week}
}

// P9.2: each part of a date, beyond what it may be, and at what would come back by wrapping round.
func TestSecondsEachPart(t *testing.T) {
	times := []int{0, 1, 86399, 951782400, 951868799, 4107542400, 1763251200, last - 1, last}
	for _, n := range times {
		c := known(n)
		for i := range parts(&c) {
			for _, v := range append([]int{-366, -12, -2, -1, 0, 1, 2, 12, 13, 24, 25, 28, 29, 30, 31, 32, 59, 60, 61, 366, 1968, 1969, 1970, 1971, 9999, 10000}, wild...) {
				for _, add := range []int{0, *parts(&c)[i]} {
					over := c
					*parts(&over)[i] = v + add
					checked(t, over)
				}
			}
		}
	}
}

// P9.2: all dates of few parts, right and wrong ones.
func TestSecondsAllShort(t *testing.T) {
	for _, year := range []int{-1, 0, 1969, 1970, 1972, 2000, 2100, 9999, 10000} {
		for month := -1; month <= 14; month++ {
			for day := -1; day <= 33; day++ {
				for _, at := range [][3]int{{0, 0, 0}, {23, 59, 59}, {24, 0, 0}, {-1, 0, 0}, {0, 60, 0}, {1, -1, 0}, {0, 0, 60}, {0, 1, -1}} {
					for week := -1; week <= 7; week++ {
						checked(t, api.Civil{Year: year, Month: month, Day: day, Hour: at[0], Minute: at[1], Second: at[2], Week: week})
					}
				}
			}
		}
	}
}

// within tells whether a number is from one to another.
func within(n, from, to int) bool {
	return n >= from && n <= to
}

// checked fails, unless a date has the time that the library tells, if it is one, and else none.
func checked(t *testing.T, c api.Civil) {
	t.Helper()
	right := within(c.Year, 1970, 9999) && within(c.Month, 1, 12) && within(c.Day, 1, plainDays(c.Year, c.Month)) && within(c.Hour, 0, 23) && within(c.Minute, 0, 59) && within(c.Second, 0, 59)
	if right {
		n := int(time.Date(c.Year, time.Month(c.Month), c.Day, c.Hour, c.Minute, c.Second, 0, time.UTC).Unix())
		if known(n) == c {
			dated(t, n, c)
			return
		}
	}
	undated(t, c)
}
