package clock

import (
	"strconv"
	"strings"

	"pigeonhole/api"
)

// The names of the days of the week and of the months, one behind the other.
const (
	weekNames  = "MonTueWedThuFriSatSun"
	monthNames = "JanFebMarAprMayJunJulAugSepOctNovDec"
)

// nameLen is how many bytes each name has, stampLen how many a stamp has.
const (
	nameLen  = 3
	stampLen = 31
)

// zone is what a stamp ends with.
const zone = " +0000"

// name is one of the names, counted from 0.
func name(names string, i int) string {
	return names[i*nameLen : (i+1)*nameLen]
}

// digits is a number with noughts ahead, so that it has so many digits.
func digits(n, size int) string {
	s := strconv.Itoa(n)
	return strings.Repeat("0", size-len(s)) + s
}

// Stamp is a time's stamp.
func Stamp(t int) (string, bool) {
	c, ok := Civil(t)
	if !ok {
		return "", false
	}
	date := name(weekNames, c.Week) + ", " + digits(c.Day, 2) + " " + name(monthNames, c.Month-1) + " " + digits(c.Year, 4)
	return date + " " + digits(c.Hour, 2) + ":" + digits(c.Minute, 2) + ":" + digits(c.Second, 2) + zone, true
}

// Parse is the time whose stamp that is.
func Parse(s string) (int, bool) {
	if len(s) != stampLen {
		return 0, false
	}
	t := sum(api.Civil{
		Year:   number(s[12:16]),
		Month:  monthNamed(s[8:11]),
		Day:    number(s[5:7]),
		Hour:   number(s[17:19]),
		Minute: number(s[20:22]),
		Second: number(s[23:25]),
	})
	// What isn't of the form may tell a time as well, but has another text than that one's stamp.
	if again, ok := Stamp(t); !ok || again != s {
		return 0, false
	}
	return t, true
}

// monthNamed is the number of the month with a name; 0, if there is none such.
func monthNamed(s string) int {
	for i := range len(monthNames) / nameLen {
		if name(monthNames, i) == s {
			return i + 1
		}
	}
	return 0
}

// number is what a text tells as a number; 0, if it is none.
func number(s string) int {
	n, err := strconv.Atoi(s)
	if err != nil {
		return 0
	}
	return n
}
