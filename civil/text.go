package civil

import (
	"strconv"
	"strings"

	"fusee/api"
)

// form is how a date's text looks; a 0 stands for any digit.
const form = "0000-00-00T00:00:00.000000000"

// Text is a date's.
func Text(d api.Date) (string, bool) {
	if !Right(d) {
		return "", false
	}
	day := padded(d.Year, 4) + "-" + padded(d.Month, 2) + "-" + padded(d.Day, 2)
	time := padded(d.Hour, 2) + ":" + padded(d.Minute, 2) + ":" + padded(d.Second, 2)
	return day + "T" + time + "." + padded(d.Nsec, 9), true
}

// padded is a number in so many digits, which must be enough for it.
func padded(n, digits int) string {
	s := strconv.Itoa(n)
	return strings.Repeat("0", digits-len(s)) + s
}

// Parse reads a date's text.
func Parse(s string) (api.Date, bool) {
	if !formed(s) {
		return api.Date{}, false
	}
	d := api.Date{
		Year: number(s[0:4]), Month: number(s[5:7]), Day: number(s[8:10]),
		Hour: number(s[11:13]), Minute: number(s[14:16]), Second: number(s[17:19]),
		Nsec: number(s[20:29]),
	}
	if !Right(d) {
		return api.Date{}, false
	}
	return d, true
}

// formed asks whether a text looks like a date's.
func formed(s string) bool {
	if len(s) != len(form) {
		return false
	}
	for i := range len(form) {
		if form[i] == '0' && (s[i] < '0' || s[i] > '9') || form[i] != '0' && s[i] != form[i] {
			return false
		}
	}
	return true
}

// number is that of decimal digits, of which there are few.
func number(digits string) int {
	n, _ := strconv.Atoi(digits)
	return n
}
