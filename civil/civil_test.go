package civil

import (
	"math"
	"math/rand"
	"testing"
	"time"

	"fusee/api"
)

const (
	first = -719162 // the number of the first day of the year 1
	last  = 2932896 // the number of the last day of the year 9999
)

// faraway are numbers of no day, up to the bounds of an int.
func faraway() []int {
	return []int{first - 1, first - 2, first - 7, first - 400, last + 1, last + 2, last + 7, last + 400, -1 << 31, 1 << 31, -1 << 40, 1 << 40, math.MinInt, math.MinInt + 1, math.MinInt + 7, math.MaxInt, math.MaxInt - 1, math.MaxInt - 7}
}

// month is how many days a month has, told case by case.
func month(long bool, m int) int {
	switch m {
	case 4, 6, 9, 11:
		return 30
	case 2:
		if long {
			return 29
		}
		return 28
	}
	return 31
}

// at is a day's midnight as the library tells it.
func at(n int) time.Time { return time.Unix(int64(n)*86400, 0).UTC() }

func TestLong(t *testing.T) { // P7.1
	for _, year := range []int{4, 1996, 2000, 2024, 1600, 400, 9996, 0, 10000, -4, -400, -2000, 1 << 40, math.MinInt} {
		if !Long(year) {
			t.Errorf("Long(%d) is false", year)
		}
	}
	for _, year := range []int{1, 2, 3, 5, 100, 200, 300, 1900, 2100, 1999, 2023, 9999, -1, -2, -3, -100, -1900, math.MaxInt, math.MinInt + 1, math.MinInt + 2} {
		if Long(year) {
			t.Errorf("Long(%d) is true", year)
		}
	}
}

// TestLongAgain goes through all years that are left of four hundred, on both sides of the year 0.
func TestLongAgain(t *testing.T) { // P7.1
	for year := -801; year <= 10001; year++ {
		by := (year + 4000) % 400
		want := by == 0 || by%4 == 0 && by != 100 && by != 200 && by != 300
		if got := Long(year); got != want {
			t.Errorf("Long(%d) = %t", year, got)
		}
	}
}

func TestDays(t *testing.T) { // P7.1
	for year := 1; year <= 9999; year++ {
		for m := 1; m <= 12; m++ {
			if got, want := Days(year, m), month(Long(year), m); got != want {
				t.Fatalf("Days(%d, %d) = %d, not %d", year, m, got, want)
			}
		}
	}
	for _, c := range [][2]int{
		{2000, 0}, {2000, 13}, {2000, -1}, {2000, math.MinInt}, {2000, math.MaxInt}, {2000, 14}, {2000, -10},
		{0, 1}, {0, 2}, {-1, 1}, {-4, 2}, {10000, 1}, {10000, 2}, {math.MinInt, 5}, {math.MaxInt, 5}, {0, 0}, {10000, 13},
	} {
		if got := Days(c[0], c[1]); got != 0 {
			t.Errorf("Days(%d, %d) = %d, not 0", c[0], c[1], got)
		}
	}
}

func TestNumber(t *testing.T) { // P7.1
	for _, c := range [][4]int{
		{1970, 1, 1, 0}, {1970, 1, 2, 1}, {1969, 12, 31, -1}, {2000, 3, 1, 11017}, {2000, 2, 29, 11016}, {2000, 2, 28, 11015}, {2000, 1, 1, 10957}, {2000, 12, 31, 11322},
		{1, 1, 1, first}, {1, 2, 28, first + 58}, {1, 3, 1, first + 59}, {1, 12, 31, first + 364}, {2, 1, 1, first + 365}, {400, 2, 29, -573372}, {400, 3, 1, -573371},
		{9999, 12, 31, last}, {9999, 1, 1, last - 364}, {1900, 3, 1, -25508}, {1900, 2, 28, -25509}, {2100, 3, 1, 47541}, {2024, 2, 29, 19782},
	} {
		if got, ok := Number(c[0], c[1], c[2]); got != c[3] || !ok {
			t.Errorf("Number(%d, %d, %d) = %d, %t, not %d", c[0], c[1], c[2], got, ok, c[3])
		}
	}
}

// noDays are years, months and days of which there are none.
func noDays() [][3]int {
	return [][3]int{
		{2000, 1, 0}, {2000, 1, -1}, {2000, 1, 32}, {2000, 4, 31}, {2000, 2, 30}, {2001, 2, 29}, {1900, 2, 29}, {2100, 2, 29}, {2000, 12, 32}, {2000, 6, 31}, {2000, 9, 31}, {2000, 11, 31},
		{2000, 0, 1}, {2000, 13, 1}, {2000, -1, 1}, {2000, 15, 1}, {2000, -9, 1}, {0, 1, 1}, {0, 12, 31}, {0, 2, 29}, {0, 3, 1}, {-1, 1, 1}, {-4, 2, 29}, {10000, 1, 1}, {10000, 12, 31},
		{0, 0, 0}, {2000, 0, 0}, {10000, 0, 0}, {math.MinInt, 1, 1}, {math.MaxInt, 1, 1}, {2000, math.MinInt, 1}, {2000, math.MaxInt, 1}, {2000, 1, math.MinInt}, {2000, 1, math.MaxInt}, {math.MinInt, math.MinInt, math.MinInt}, {math.MaxInt, math.MaxInt, math.MaxInt},
	}
}

func TestNoDays(t *testing.T) { // P7.1
	for _, c := range noDays() {
		if got, ok := Number(c[0], c[1], c[2]); got != 0 || ok {
			t.Errorf("Number(%d, %d, %d) = %d, %t, not false", c[0], c[1], c[2], got, ok)
		}
		if got, ok := YearDay(c[0], c[1], c[2]); got != 0 || ok {
			t.Errorf("YearDay(%d, %d, %d) = %d, %t, not false", c[0], c[1], c[2], got, ok)
		}
		d := api.Date{Year: c[0], Month: c[1], Day: c[2]}
		if Right(d) {
			t.Errorf("Right(%v) is true", d)
		}
	}
}

// TestEveryDay goes from day to day through all years, and holds each number against the walk.
func TestEveryDay(t *testing.T) { // P7.1, P7.2
	n := first
	for year := 1; year <= 9999; year++ {
		inYear := 0
		for m := 1; m <= 12; m++ {
			for day := 1; day <= month(Long(year), m); day++ {
				inYear++
				if got, ok := Number(year, m, day); got != n || !ok {
					t.Fatalf("Number(%d, %d, %d) = %d, %t, not %d", year, m, day, got, ok, n)
				}
				if y, o, d, ok := Day(n); y != year || o != m || d != day || !ok {
					t.Fatalf("Day(%d) = %d, %d, %d, %t, not %d, %d, %d", n, y, o, d, ok, year, m, day)
				}
				if got, ok := YearDay(year, m, day); got != inYear || !ok {
					t.Fatalf("YearDay(%d, %d, %d) = %d, %t, not %d", year, m, day, got, ok, inYear)
				}
				n++
			}
		}
	}
	if n != last+1 {
		t.Errorf("all years end ahead of %d, not of %d", n, last+1)
	}
}

func TestDayFaraway(t *testing.T) { // P7.1
	for _, n := range faraway() {
		if year, m, day, ok := Day(n); year != 0 || m != 0 || day != 0 || ok {
			t.Errorf("Day(%d) = %d, %d, %d, %t, not false", n, year, m, day, ok)
		}
	}
}

func TestWeekday(t *testing.T) { // P7.1
	for _, c := range [][2]int{
		{0, 3}, {1, 4}, {3, 6}, {4, 0}, {-1, 2}, {-3, 0}, {-4, 6}, {-7, 3}, {7, 3}, {11017, 2}, {first, 0}, {last, 4}, {first - 1, 6}, {last + 1, 5},
		{math.MaxInt, 3}, {math.MaxInt - 3, 0}, {math.MaxInt - 4, 6}, {math.MinInt, 2}, {math.MinInt + 1, 3}, {math.MinInt + 4, 6}, {math.MinInt + 5, 0},
	} {
		if got := Weekday(c[0]); got != c[1] {
			t.Errorf("Weekday(%d) = %d, not %d", c[0], got, c[1])
		}
	}
	for n := first - 1000; n <= last+1000; n++ {
		if got, want := Weekday(n), (int(at(n).Weekday())+6)%7; got != want {
			t.Fatalf("Weekday(%d) = %d, not %d", n, got, want)
		}
	}
}

func TestYearDay(t *testing.T) { // P7.1
	for _, c := range [][4]int{{2000, 1, 1, 1}, {2000, 2, 29, 60}, {2000, 3, 1, 61}, {2001, 3, 1, 60}, {2000, 12, 31, 366}, {2001, 12, 31, 365}, {1, 1, 1, 1}, {9999, 12, 31, 365}} {
		if got, ok := YearDay(c[0], c[1], c[2]); got != c[3] || !ok {
			t.Errorf("YearDay(%d, %d, %d) = %d, %t, not %d", c[0], c[1], c[2], got, ok, c[3])
		}
	}
}

func TestWeek(t *testing.T) { // P7.1
	for _, c := range [][5]int{
		{1970, 1, 1, 1970, 1}, {1969, 12, 29, 1970, 1}, {1969, 12, 28, 1969, 52}, {1970, 1, 4, 1970, 1}, {1970, 1, 5, 1970, 2},
		{2021, 1, 1, 2020, 53}, {2021, 1, 3, 2020, 53}, {2021, 1, 4, 2021, 1}, {2020, 12, 28, 2020, 53}, {2020, 12, 27, 2020, 52},
		{2024, 12, 29, 2024, 52}, {2024, 12, 30, 2025, 1}, {2022, 1, 1, 2021, 52}, {2023, 1, 1, 2022, 52}, {2016, 1, 3, 2015, 53},
		{1, 1, 1, 1, 1}, {1, 1, 7, 1, 1}, {1, 1, 8, 1, 2}, {9999, 12, 31, 9999, 52}, {9999, 12, 27, 9999, 52}, {9999, 12, 26, 9999, 51},
	} {
		n, _ := Number(c[0], c[1], c[2])
		if year, week, ok := Week(n); year != c[3] || week != c[4] || !ok {
			t.Errorf("Week(%d), of %v, = %d, %d, %t", n, c, year, week, ok)
		}
	}
	for n := first; n <= last; n++ {
		year, week := at(n).ISOWeek()
		if y, w, ok := Week(n); y != year || w != week || !ok {
			t.Fatalf("Week(%d) = %d, %d, %t, not %d, %d", n, y, w, ok, year, week)
		}
	}
	for _, n := range faraway() {
		if year, week, ok := Week(n); year != 0 || week != 0 || ok {
			t.Errorf("Week(%d) = %d, %d, %t, not false", n, year, week, ok)
		}
	}
}

// wrongDates are those that may not be, each by one number alone, and by several.
func wrongDates() []api.Date {
	l := []api.Date{{}}
	for _, c := range noDays() {
		l = append(l, api.Date{Year: c[0], Month: c[1], Day: c[2], Hour: 12, Minute: 30, Second: 15, Nsec: 5})
	}
	for _, n := range []int{-1, math.MinInt, math.MaxInt} {
		l = append(l, api.Date{Year: 2000, Month: 1, Day: 1, Hour: n}, api.Date{Year: 2000, Month: 1, Day: 1, Minute: n}, api.Date{Year: 2000, Month: 1, Day: 1, Second: n}, api.Date{Year: 2000, Month: 1, Day: 1, Nsec: n})
	}
	return append(l,
		api.Date{Year: 2000, Month: 1, Day: 1, Hour: 24}, api.Date{Year: 2000, Month: 1, Day: 1, Hour: 25}, api.Date{Year: 2000, Month: 1, Day: 1, Minute: 60}, api.Date{Year: 2000, Month: 1, Day: 1, Second: 60}, api.Date{Year: 2000, Month: 1, Day: 1, Second: 61},
		api.Date{Year: 2000, Month: 1, Day: 1, Nsec: api.Second}, api.Date{Year: 2016, Month: 12, Day: 31, Hour: 23, Minute: 59, Second: 60}, api.Date{Year: 2000, Month: 1, Day: 1, Hour: -1, Minute: 60, Second: -1, Nsec: -1},
	)
}

// rightDates are ordinary ones, and those at the bounds of each number.
func rightDates() []api.Date {
	var l []api.Date
	for _, day := range [][3]int{{1, 1, 1}, {1, 12, 31}, {4, 2, 29}, {99, 10, 10}, {400, 2, 29}, {999, 9, 9}, {1000, 1, 1}, {1600, 2, 29}, {1900, 2, 28}, {1969, 12, 31}, {1970, 1, 1}, {2000, 2, 29}, {2000, 3, 1}, {2024, 11, 30}, {9999, 12, 31}} {
		for _, time := range [][3]int{{0, 0, 0}, {0, 0, 59}, {0, 59, 0}, {23, 0, 0}, {23, 59, 59}, {12, 34, 56}, {1, 2, 3}} {
			for _, nsec := range []int{0, 1, 5, 10, 123456789, 100000000, api.MaxNsec} {
				l = append(l, api.Date{Year: day[0], Month: day[1], Day: day[2], Hour: time[0], Minute: time[1], Second: time[2], Nsec: nsec})
			}
		}
	}
	r := rand.New(rand.NewSource(7))
	for range 20000 {
		t := at(first + r.Intn(last-first+1))
		l = append(l, api.Date{Year: t.Year(), Month: int(t.Month()), Day: t.Day(), Hour: r.Intn(24), Minute: r.Intn(60), Second: r.Intn(60), Nsec: r.Intn(api.Second) >> r.Intn(30)})
	}
	return l
}

// told is a date as the library tells it.
func told(d api.Date) time.Time {
	return time.Date(d.Year, time.Month(d.Month), d.Day, d.Hour, d.Minute, d.Second, d.Nsec, time.UTC)
}

func TestRight(t *testing.T) { // P7.1
	for _, d := range rightDates() {
		if !Right(d) {
			t.Errorf("Right(%v) is false", d)
		}
	}
	for _, d := range wrongDates() {
		if Right(d) {
			t.Errorf("Right(%v) is true", d)
		}
	}
}

func TestSpec(t *testing.T) { // P7.1
	for _, c := range []struct {
		d         api.Date
		sec, nsec int
	}{
		{api.Date{Year: 1970, Month: 1, Day: 1}, 0, 0}, {api.Date{Year: 1970, Month: 1, Day: 1, Nsec: 5}, 0, 5}, {api.Date{Year: 1970, Month: 1, Day: 2, Hour: 1, Minute: 1, Second: 1}, 90061, 0},
		{api.Date{Year: 1969, Month: 12, Day: 31, Hour: 23, Minute: 59, Second: 59, Nsec: api.MaxNsec}, -1, api.MaxNsec}, {api.Date{Year: 2000, Month: 3, Day: 1}, 951868800, 0},
		{api.Date{Year: 1, Month: 1, Day: 1}, -62135596800, 0}, {api.Date{Year: 9999, Month: 12, Day: 31, Hour: 23, Minute: 59, Second: 59, Nsec: 7}, 253402300799, 7},
	} {
		if sec, nsec, ok := Spec(c.d); sec != c.sec || nsec != c.nsec || !ok {
			t.Errorf("Spec(%v) = %d, %d, %t, not %d, %d", c.d, sec, nsec, ok, c.sec, c.nsec)
		}
		if d, ok := Date(c.sec, c.nsec); d != c.d || !ok {
			t.Errorf("Date(%d, %d) = %v, %t, not %v", c.sec, c.nsec, d, ok, c.d)
		}
	}
	for _, d := range rightDates() {
		if sec, nsec, ok := Spec(d); sec != int(told(d).Unix()) || nsec != d.Nsec || !ok {
			t.Fatalf("Spec(%v) = %d, %d, %t, not %d", d, sec, nsec, ok, told(d).Unix())
		}
	}
	for _, d := range wrongDates() {
		if sec, nsec, ok := Spec(d); sec != 0 || nsec != 0 || ok {
			t.Errorf("Spec(%v) = %d, %d, %t, not false", d, sec, nsec, ok)
		}
	}
}

func TestDate(t *testing.T) { // P7.1
	r := rand.New(rand.NewSource(8))
	check := func(sec, nsec int) {
		u := time.Unix(int64(sec), int64(nsec)).UTC()
		want := api.Date{Year: u.Year(), Month: int(u.Month()), Day: u.Day(), Hour: u.Hour(), Minute: u.Minute(), Second: u.Second(), Nsec: nsec}
		if d, ok := Date(sec, nsec); d != want || !ok {
			t.Fatalf("Date(%d, %d) = %v, %t, not %v", sec, nsec, d, ok, want)
		}
	}
	for range 100000 {
		check(first*86400+r.Intn((last-first+1)*86400), r.Intn(api.Second))
	}
	for sec := -2*86400 - 5; sec <= 2*86400+5; sec++ {
		check(sec, 0)
		check(sec, api.MaxNsec)
	}
	check(first*86400, 0)
	check(last*86400+86399, api.MaxNsec)
	for _, c := range [][2]int{
		{0, -1}, {0, api.Second}, {0, math.MinInt}, {0, math.MaxInt}, {-86400, -1}, {951868800, api.Second},
		{first*86400 - 1, 0}, {first*86400 - 1, api.MaxNsec}, {first*86400 - 86400, 0}, {first*86400 - 86401, 0}, {last*86400 + 86400, 0}, {last*86400 + 172800, 0},
		{math.MinInt, 0}, {math.MinInt + 1, 5}, {math.MaxInt, 0}, {math.MaxInt - 1, 5}, {math.MinInt, -1}, {math.MaxInt, api.Second},
	} {
		if d, ok := Date(c[0], c[1]); d != (api.Date{}) || ok {
			t.Errorf("Date(%d, %d) = %v, %t, not false", c[0], c[1], d, ok)
		}
	}
}

func TestReadOfNumbers(t *testing.T) { // P7.2
	for _, d := range rightDates() {
		sec, nsec, _ := Spec(d)
		if got, ok := Date(sec, nsec); got != d || !ok {
			t.Fatalf("Date(%d, %d) = %v, %t, not %v", sec, nsec, got, ok, d)
		}
	}
}
