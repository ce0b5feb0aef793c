package spec

import (
	"math"
	"math/big"
	"strings"
	"testing"

	"fusee/api"
)

const never = api.MaxTime

// rightOnes are specs that may be, from the least to the greatest.
func rightOnes() []api.Spec {
	var l []api.Spec
	for _, sec := range []int{0, 1, 9, 10, 59, 1000, 4611686017, 4611686018, 4611686019, 999999999999999999, 1000000000000000000, 1<<62 - 1, 1 << 62, 1<<62 + 1, math.MaxInt} {
		for _, nsec := range []int{0, 1, 5, 10, 123456789, 427387902, 427387903, 427387904, 500000000, 999999998, api.MaxNsec} {
			l = append(l, api.Spec{Sec: sec, Nsec: nsec})
		}
	}
	return l
}

// wrongOnes are specs that may not be.
func wrongOnes() []api.Spec {
	return []api.Spec{{Sec: -1}, {Sec: -1, Nsec: 5}, {Sec: math.MinInt}, {Nsec: -1}, {Sec: 5, Nsec: -1}, {Nsec: math.MinInt}, {Nsec: api.Second}, {Sec: 5, Nsec: api.Second}, {Nsec: math.MaxInt}, {Sec: -1, Nsec: -1}}
}

// nanos is a spec's nanoseconds as a number of any size.
func nanos(s api.Spec) *big.Int {
	n := new(big.Int).Mul(big.NewInt(int64(s.Sec)), big.NewInt(api.Second))
	return n.Add(n, big.NewInt(int64(s.Nsec)))
}

func TestRight(t *testing.T) { // P2.1
	for _, s := range rightOnes() {
		if !Right(s) {
			t.Errorf("Right(%v) is false", s)
		}
	}
	for _, s := range wrongOnes() {
		if Right(s) {
			t.Errorf("Right(%v) is true", s)
		}
	}
}

func TestTime(t *testing.T) { // P2.1
	for _, c := range []struct {
		s    api.Spec
		want int
	}{
		{api.Spec{}, 0}, {api.Spec{Nsec: 7}, 7}, {api.Spec{Sec: 1, Nsec: 5}, 1000000005}, {api.Spec{Nsec: api.MaxNsec}, 999999999},
		{api.Spec{Sec: 4611686018, Nsec: 427387902}, never - 1}, {api.Spec{Sec: 4611686018, Nsec: 427387903}, never}, {api.Spec{Sec: 4611686018, Nsec: 427387904}, never},
		{api.Spec{Sec: 4611686019}, never}, {api.Spec{Sec: math.MaxInt, Nsec: api.MaxNsec}, never},
	} {
		if got, e := Time(c.s); got != c.want || e != api.OK {
			t.Errorf("Time(%v) = %d, %d, not %d", c.s, got, e, c.want)
		}
	}
	for _, s := range rightOnes() {
		want := never
		if n := nanos(s); n.Cmp(big.NewInt(never)) < 0 {
			want = int(n.Int64())
		}
		if got, e := Time(s); got != want || e != api.OK {
			t.Errorf("Time(%v) = %d, %d, not %d", s, got, e, want)
		}
	}
	for _, s := range wrongOnes() {
		if got, e := Time(s); got != 0 || e != api.ErrInval {
			t.Errorf("Time(%v) = %d, %d, not 0, ErrInval", s, got, e)
		}
	}
}

func TestOf(t *testing.T) { // P2.1
	last := api.Spec{Sec: 4611686018, Nsec: 427387903}
	for _, c := range []struct {
		t    int
		want api.Spec
	}{
		{0, api.Spec{}}, {5, api.Spec{Nsec: 5}}, {1000000005, api.Spec{Sec: 1, Nsec: 5}}, {999999999, api.Spec{Nsec: api.MaxNsec}}, {1000000000, api.Spec{Sec: 1}},
		{-1, api.Spec{}}, {-1000000005, api.Spec{}}, {-never, api.Spec{}}, {math.MinInt, api.Spec{}},
		{never - 1, api.Spec{Sec: 4611686018, Nsec: 427387902}}, {never, last}, {never + 1, last}, {math.MaxInt, last},
	} {
		if got := Of(c.t); got != c.want {
			t.Errorf("Of(%d) = %v, not %v", c.t, got, c.want)
		}
	}
}

func TestMicro(t *testing.T) { // P2.1
	for _, c := range []struct {
		sec, usec int
		want      api.Spec
	}{
		{0, 0, api.Spec{}}, {1, 5, api.Spec{Sec: 1, Nsec: 5000}}, {0, 999999, api.Spec{Nsec: 999999000}}, {math.MaxInt, 1, api.Spec{Sec: math.MaxInt, Nsec: 1000}},
	} {
		if got, e := Micro(c.sec, c.usec); got != c.want || e != api.OK {
			t.Errorf("Micro(%d, %d) = %v, %d, not %v", c.sec, c.usec, got, e, c.want)
		}
	}
	for _, c := range [][2]int{{-1, 0}, {math.MinInt, 5}, {0, -1}, {5, 1000000}, {5, math.MaxInt}, {5, math.MinInt}, {-1, -1}} {
		if got, e := Micro(c[0], c[1]); got != (api.Spec{}) || e != api.ErrInval {
			t.Errorf("Micro(%d, %d) = %v, %d, not ErrInval", c[0], c[1], got, e)
		}
	}
}

func TestText(t *testing.T) { // P2.1
	for _, c := range []struct {
		s    api.Spec
		want string
	}{
		{api.Spec{}, "0.000000000"}, {api.Spec{Sec: 1, Nsec: 5}, "1.000000005"}, {api.Spec{Nsec: api.MaxNsec}, "0.999999999"}, {api.Spec{Sec: 10, Nsec: 120000000}, "10.120000000"},
		{api.Spec{Sec: 999999999999999999, Nsec: 1}, "999999999999999999.000000001"}, {api.Spec{Sec: math.MaxInt}, "9223372036854775807.000000000"},
	} {
		if got, ok := Text(c.s); got != c.want || !ok {
			t.Errorf("Text(%v) = %q, %v, not %q", c.s, got, ok, c.want)
		}
	}
	for _, s := range wrongOnes() {
		if got, ok := Text(s); got != "" || ok {
			t.Errorf("Text(%v) = %q, %v, not false", s, got, ok)
		}
	}
}

func TestParse(t *testing.T) { // P2.1
	for _, c := range []struct {
		s    string
		want api.Spec
	}{
		{"0.000000000", api.Spec{}}, {"1.000000005", api.Spec{Sec: 1, Nsec: 5}}, {"0.999999999", api.Spec{Nsec: api.MaxNsec}}, {"10.012345678", api.Spec{Sec: 10, Nsec: 12345678}},
		{"999999999999999999.999999999", api.Spec{Sec: 999999999999999999, Nsec: api.MaxNsec}}, {"100000000000000000.000000000", api.Spec{Sec: 100000000000000000}},
	} {
		if got, ok := Parse(c.s); got != c.want || !ok {
			t.Errorf("Parse(%q) = %v, %v, not %v", c.s, got, ok, c.want)
		}
	}
}

func TestParseWrong(t *testing.T) { // P2.1
	for _, s := range []string{
		"", ".", "0", "1", "1.", "1.5", ".000000005", "1000000005", "000000005", "1,000000005",
		"1.00000000", "1.0000000000", "1.00000000.", "1.0000000.5", "1..00000005", "1.000000005.", ".1.000000005",
		"00.000000000", "01.000000005", "000000000000000001.000000000",
		"1000000000000000000.000000000", "0000000000000000001.000000000", "9223372036854775807.000000000", "18446744073709551617.000000000",
		"-1.000000005", "+1.000000005", "-0.000000000", "1.-00000005", "1.+00000005", "1.00000000-",
		" 1.000000005", "1.000000005 ", "1 .000000005", "1. 00000005", "1.000000005\n", "\x001.000000005",
		"1_0.000000005", "1.0000_0005", "0x1.000000005", "1.00000000e", "1e1.000000005", "a.000000005", "1.abcdefghi", "/.000000000", ":.000000000", "1.00000000/", "1.00000000:",
		"\u0661.000000005", "1.\u0660\u0660\u0660\u0660a", "1.\u0660\u0660\u0660\u0660\u0660\u0660\u0660\u0660\u0660", "\uff11.000000005", "1.\uff10\uff10\uff10", "\xff.000000005", "1.\xff00000005", "1.00000000\x80",
		strings.Repeat("9", 1000) + ".000000000", "1." + strings.Repeat("0", 1000), strings.Repeat(".", 100),
	} {
		if got, ok := Parse(s); got != (api.Spec{}) || ok {
			t.Errorf("Parse(%q) = %v, %v, not false", s, got, ok)
		}
	}
}

// TestParseBytes puts each byte at each place of a text: what is read must be what that text says.
func TestParseBytes(t *testing.T) { // P2.1
	const text = "12.345678901"
	for i := range len(text) {
		for b := range 256 {
			s := text[:i] + string([]byte{byte(b)}) + text[i+1:]
			got, ok := Parse(s)
			back, _ := Text(got)
			digit := b >= '0' && b <= '9'
			want := s == text || i != 2 && digit && !(i == 0 && b == '0')
			if ok != want || ok && back != s || !ok && got != (api.Spec{}) {
				t.Errorf("Parse(%q) = %v, %v", s, got, ok)
			}
		}
	}
}

func TestLess(t *testing.T) { // P2.1
	rising := []api.Spec{{Sec: math.MinInt, Nsec: math.MaxInt}, {Sec: -1}, {Nsec: math.MinInt}, {Nsec: -1}, {}, {Nsec: 1}, {Nsec: api.MaxNsec}, {Nsec: math.MaxInt}, {Sec: 1, Nsec: -5}, {Sec: 1}, {Sec: 1, Nsec: 5}, {Sec: 2}, {Sec: 10, Nsec: 1}, {Sec: math.MaxInt, Nsec: math.MinInt}, {Sec: math.MaxInt, Nsec: math.MaxInt}}
	for i, a := range rising {
		for j, b := range rising {
			if got := Less(a, b); got != (i < j) {
				t.Errorf("Less(%v, %v) = %v", a, b, got)
			}
		}
	}
}

func TestAdd(t *testing.T) { // P2.1
	half := 1 << 61
	for _, c := range []struct {
		a, b, want api.Spec
		e          api.Errno
	}{
		{api.Spec{}, api.Spec{}, api.Spec{}, api.OK},
		{api.Spec{Sec: 1, Nsec: 5}, api.Spec{Sec: 2, Nsec: 6}, api.Spec{Sec: 3, Nsec: 11}, api.OK},
		{api.Spec{Sec: 1, Nsec: api.MaxNsec}, api.Spec{Nsec: 1}, api.Spec{Sec: 2}, api.OK},
		{api.Spec{Nsec: api.MaxNsec}, api.Spec{Nsec: api.MaxNsec}, api.Spec{Sec: 1, Nsec: 999999998}, api.OK},
		{api.Spec{Sec: half, Nsec: 5}, api.Spec{Sec: half, Nsec: 6}, api.Spec{Sec: 1 << 62, Nsec: 11}, api.OK},
		{api.Spec{Sec: 1 << 62, Nsec: 5}, api.Spec{Nsec: 6}, api.Spec{Sec: 1 << 62, Nsec: 11}, api.OK},
		{api.Spec{Sec: 1<<62 - 1, Nsec: api.MaxNsec}, api.Spec{Nsec: 1}, api.Spec{Sec: 1 << 62}, api.OK},
		{api.Spec{Sec: 1 << 62, Nsec: api.MaxNsec}, api.Spec{Nsec: 1}, api.Spec{}, api.ErrRange},
		{api.Spec{Sec: 1 << 62}, api.Spec{Sec: 1}, api.Spec{}, api.ErrRange},
		{api.Spec{Sec: 1<<62 + 1}, api.Spec{}, api.Spec{}, api.ErrRange},
		{api.Spec{}, api.Spec{Sec: math.MaxInt}, api.Spec{}, api.ErrRange},
		{api.Spec{Sec: math.MaxInt}, api.Spec{Sec: 1}, api.Spec{}, api.ErrRange},
		{api.Spec{Sec: math.MaxInt, Nsec: api.MaxNsec}, api.Spec{Sec: math.MaxInt, Nsec: api.MaxNsec}, api.Spec{}, api.ErrRange},
	} {
		if got, e := Add(c.a, c.b); got != c.want || e != c.e {
			t.Errorf("Add(%v, %v) = %v, %d, not %v, %d", c.a, c.b, got, e, c.want, c.e)
		}
	}
}

func TestAddPairs(t *testing.T) { // P2.1
	bound := nanos(api.Spec{Sec: 1 << 62, Nsec: api.MaxNsec})
	for _, a := range rightOnes() {
		for _, b := range rightOnes() {
			sum := new(big.Int).Add(nanos(a), nanos(b))
			got, e := Add(a, b)
			if sum.Cmp(bound) > 0 {
				if got != (api.Spec{}) || e != api.ErrRange {
					t.Errorf("Add(%v, %v) = %v, %d, not ErrRange", a, b, got, e)
				}
			} else if e != api.OK || !Right(got) || nanos(got).Cmp(sum) != 0 {
				t.Errorf("Add(%v, %v) = %v, %d", a, b, got, e)
			}
		}
	}
}

// TestAddWrong pairs wrong specs with right ones, some of which would be beyond the range: ErrInval is named first.
func TestAddWrong(t *testing.T) { // P2.1
	for _, a := range wrongOnes() {
		for _, b := range append(rightOnes(), wrongOnes()...) {
			if got, e := Add(a, b); got != (api.Spec{}) || e != api.ErrInval {
				t.Errorf("Add(%v, %v) = %v, %d, not ErrInval", a, b, got, e)
			}
			if got, e := Add(b, a); got != (api.Spec{}) || e != api.ErrInval {
				t.Errorf("Add(%v, %v) = %v, %d, not ErrInval", b, a, got, e)
			}
		}
	}
}

func TestReadOfText(t *testing.T) { // P2.2
	for _, s := range rightOnes() {
		text, ok := Text(s)
		if !ok {
			t.Errorf("Text(%v) is false", s)
		}
		if s.Sec > 999999999999999999 { // no Sec of more than 18 digits is read
			continue
		}
		if got, ok := Parse(text); got != s || !ok {
			t.Errorf("Parse(%q) = %v, %v, not %v", text, got, ok, s)
		}
	}
}

func TestReadOfTime(t *testing.T) { // P2.2
	for _, s := range rightOnes() {
		n, e := Time(s)
		if e != api.OK {
			t.Errorf("Time(%v): %d", s, e)
		}
		if n == never {
			continue
		}
		if got := Of(n); got != s {
			t.Errorf("Of(%d) = %v, not %v", n, got, s)
		}
	}
}
