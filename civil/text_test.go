package civil

import (
	"strings"
	"testing"

	"fusee/api"
)

func TestText(t *testing.T) { // P7.1
	for _, c := range []struct {
		d    api.Date
		want string
	}{
		{api.Date{Year: 1970, Month: 1, Day: 1, Nsec: 5}, "1970-01-01T00:00:00.000000005"},
		{api.Date{Year: 1, Month: 2, Day: 3, Hour: 4, Minute: 5, Second: 6, Nsec: 7}, "0001-02-03T04:05:06.000000007"},
		{api.Date{Year: 9999, Month: 12, Day: 31, Hour: 23, Minute: 59, Second: 58, Nsec: api.MaxNsec}, "9999-12-31T23:59:58.999999999"},
		{api.Date{Year: 2000, Month: 2, Day: 29, Hour: 10, Minute: 20, Second: 30, Nsec: 120000000}, "2000-02-29T10:20:30.120000000"},
		{api.Date{Year: 476, Month: 9, Day: 4, Nsec: 12345678}, "0476-09-04T00:00:00.012345678"},
	} {
		if got, ok := Text(c.d); got != c.want || !ok {
			t.Errorf("Text(%v) = %q, %t, not %q", c.d, got, ok, c.want)
		}
		if got, ok := Parse(c.want); got != c.d || !ok {
			t.Errorf("Parse(%q) = %v, %t, not %v", c.want, got, ok, c.d)
		}
	}
	for _, d := range rightDates() {
		if got, ok := Text(d); got != told(d).Format("2006-01-02T15:04:05.000000000") || !ok {
			t.Fatalf("Text(%v) = %q, %t", d, got, ok)
		}
	}
	for _, d := range wrongDates() {
		if got, ok := Text(d); got != "" || ok {
			t.Errorf("Text(%v) = %q, %t, not false", d, got, ok)
		}
	}
}

func TestParseWrong(t *testing.T) { // P7.1
	for _, s := range []string{
		"", "2", "2000", "2000-01-01", "2000-01-01T00:00:00", "2000-01-01T00:00:00.", "2000-01-01T00:00:00.0", "2000-01-01T00:00:00.00000000", "2000-01-01T00:00:00.0000000000",
		"0000-01-01T00:00:00.000000000", "0000-00-00T00:00:00.000000000", "2000-00-01T00:00:00.000000000", "2000-13-01T00:00:00.000000000", "2000-01-00T00:00:00.000000000", "2000-01-32T00:00:00.000000000",
		"2000-02-30T00:00:00.000000000", "2001-02-29T00:00:00.000000000", "1900-02-29T00:00:00.000000000", "2000-04-31T00:00:00.000000000",
		"2000-01-01T24:00:00.000000000", "2000-01-01T00:60:00.000000000", "2016-12-31T23:59:60.000000000", "9999-99-99T99:99:99.999999999",
		"2000-1-01T00:00:00.000000000", "2000-01-1T00:00:00.000000000", "200-01-01T00:00:00.000000000", "20000-01-01T00:00:00.00000000", "10000-01-01T00:00:00.000000000", "-200-01-01T00:00:00.000000000", "+200-01-01T00:00:00.000000000",
		"2000/01/01T00:00:00.000000000", "2000-01-01 00:00:00.000000000", "2000-01-01t00:00:00.000000000", "2000-01-01T00:00:00,000000000", "2000-01-01T00.00.00.000000000", "2000-01-01T00-00-00.000000000", "2000:01:01T00:00:00.000000000",
		" 2000-01-01T00:00:00.000000000", "2000-01-01T00:00:00.000000000 ", "2000-01-01T00:00:00.000000000Z", "2000-01-01T00:00:00.000000000\n", "2000-01-01T00:00:00.00000000Z", "2000-01-01T00:00:00.0000_0000",
		"2000- 1-01T00:00:00.000000000", "2000-+1-01T00:00:00.000000000", "2000--1-01T00:00:00.000000000", "2000-01-01T+1:00:00.000000000", "2000-01-01T00:00:00.-00000001", "2000-01-01T00:00:00.+00000001",
		"\u0662\u0660-01-01T00:00:00.000000000", "\uff12\uff10-01T00:00:00.000000000", "2000-01-01T00:00:00.\u0660\u0660\u0660\u06600", "2000-01-01T00:00:00.\uff10\uff10\uff10", "\xff000-01-01T00:00:00.000000000", "2000-01-01T00:00:00.00000000\x80",
		strings.Repeat("0", 29), strings.Repeat("-", 29), strings.Repeat("2000-01-01T00:00:00.000000000", 2), strings.Repeat("9", 10000),
	} {
		if got, ok := Parse(s); got != (api.Date{}) || ok {
			t.Errorf("Parse(%q) = %v, %t, not false", s, got, ok)
		}
	}
}

// TestParseBytes puts each byte at each place of texts: what is read must be what the text says, and all
// that is a date's text is read.
func TestParseBytes(t *testing.T) { // P7.1, P7.2
	for _, text := range []string{"2000-02-29T12:34:56.789012345", "1111-11-11T11:11:11.111111111", "0001-01-01T00:00:00.000000000"} {
		for i := range len(text) {
			read := 0
			for b := range 256 {
				s := text[:i] + string([]byte{byte(b)}) + text[i+1:]
				got, ok := Parse(s)
				if ok {
					read++
				}
				if back, right := Text(got); ok && (back != s || !right) || !ok && got != (api.Date{}) {
					t.Errorf("Parse(%q) = %v, %t", s, got, ok)
				}
			}
			mark := strings.IndexByte("-T:.", text[i]) >= 0
			if read == 0 || mark && read != 1 || i >= 20 && read != 10 {
				t.Errorf("%d texts are read with another byte at %d of %q", read, i, text)
			}
		}
	}
}

// TestParseCut takes one byte out of a text, or puts one more in.
func TestParseCut(t *testing.T) { // P7.1
	const text = "2000-02-29T12:34:56.789012345"
	for i := range len(text) {
		for _, s := range []string{text[:i], text[i+1:], text[:i] + text[i+1:], text[:i] + "0" + text[i:], text[:i] + text[i:i+1] + text[i:]} {
			if got, ok := Parse(s); got != (api.Date{}) || ok {
				t.Errorf("Parse(%q) = %v, %t, not false", s, got, ok)
			}
		}
	}
}

func TestReadOfTexts(t *testing.T) { // P7.2
	for _, d := range rightDates() {
		text, _ := Text(d)
		if got, ok := Parse(text); got != d || !ok {
			t.Fatalf("Parse(%q) = %v, %t, not %v", text, got, ok, d)
		}
	}
}

// TestEveryFieldRead reads all numbers of two digits in each place of a text that has two: those that
// may be there, and no others.
func TestEveryFieldRead(t *testing.T) { // P7.1, P7.2
	const text = "2001-01-01T00:00:00.000000000"
	for _, c := range []struct{ at, low, high int }{{5, 1, 12}, {8, 1, 31}, {11, 0, 23}, {14, 0, 59}, {17, 0, 59}} {
		for n := range 100 {
			s := text[:c.at] + string([]byte{byte('0' + n/10), byte('0' + n%10)}) + text[c.at+2:]
			if got, ok := Parse(s); ok != (n >= c.low && n <= c.high) {
				t.Errorf("Parse(%q) = %v, %t", s, got, ok)
			}
		}
	}
}
