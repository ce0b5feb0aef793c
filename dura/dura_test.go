package dura

import (
	"math"
	"math/big"
	"math/rand"
	"regexp"
	"strconv"
	"strings"
	"testing"

	"fusee/api"
)

const (
	never  = 1<<62 - 1
	micro  = 1000
	milli  = 1000000
	second = 1000000000
	minute = 60 * second
	hour   = 60 * minute
	day    = 24 * hour
)

// numbers are ordinary ones of both signs, and those around the units, the bounds of a time and those of an int.
func numbers() []int {
	l := []int{0, math.MinInt, math.MinInt + 1, math.MaxInt}
	for _, n := range []int{1, 2, 3, 5, 7, 8, 12, 90 * second, micro, milli, second, minute, hour, day, 86399 * second, 53375 * day, 53376 * day, 1 << 31, 1 << 61, 1<<61 + 1, never - 2, never - 1, never, never + 1, never + 2, math.MaxInt - 1} {
		l = append(l, n, -n, n-1, 1-n, n/2, -n/2)
	}
	r := rand.New(rand.NewSource(8))
	for range 3000 {
		l = append(l, int(r.Uint64())>>r.Intn(63))
	}
	return l
}

// kept is what a number counts as in layer 1.
func kept(n int) int { return min(max(n, -never), never) }

// length is how long a time is that is told in parts.
func length(t int) int {
	if t = kept(t); t < 0 {
		t = -t
	}
	return min(t, never-1)
}

func TestUnits(t *testing.T) { // P8.1
	want := [7]int{86400000000000, 3600000000000, 60000000000, 1000000000, 1000000, 1000, 1}
	l := Units()
	if l != want {
		t.Errorf("Units() = %v, not %v", l, want)
	}
	l[0] = 5
	if Units() != want {
		t.Error("Units shares memory with its answers")
	}
}

func TestParts(t *testing.T) { // P8.1
	most := [7]int{53375, 23, 53, 38, 427, 387, 902}
	for _, c := range []struct {
		t    int
		want [7]int
	}{
		{0, [7]int{}}, {1, [7]int{6: 1}}, {-1, [7]int{6: 1}}, {999, [7]int{6: 999}}, {1000, [7]int{5: 1}}, {90 * second, [7]int{2: 1, 3: 30}}, {-90 * second, [7]int{2: 1, 3: 30}},
		{day + 2*hour + 3*minute + 4*second + 5*milli + 6*micro + 7, [7]int{1, 2, 3, 4, 5, 6, 7}}, {-day - 2*hour - 3*minute - 4*second - 5*milli - 6*micro - 7, [7]int{1, 2, 3, 4, 5, 6, 7}},
		{day - 1, [7]int{0, 23, 59, 59, 999, 999, 999}}, {day, [7]int{1}}, {366 * day, [7]int{366}},
		{never - 2, [7]int{53375, 23, 53, 38, 427, 387, 901}}, {2 - never, [7]int{53375, 23, 53, 38, 427, 387, 901}},
		{never - 1, most}, {never, most}, {never + 1, most}, {math.MaxInt, most}, {1 - never, most}, {-never, most}, {-never - 1, most}, {math.MinInt, most},
	} {
		if got := Parts(c.t); got != c.want {
			t.Errorf("Parts(%d) = %v, not %v", c.t, got, c.want)
		}
	}
	below := [7]int{53376, 24, 60, 60, 1000, 1000, 1000}
	for _, n := range numbers() {
		sum, parts := 0, Parts(n)
		for i, unit := range [7]int{day, hour, minute, second, milli, micro, 1} {
			sum += unit * parts[i]
			if parts[i] < 0 || parts[i] >= below[i] {
				t.Errorf("Parts(%d) = %v", n, parts)
			}
		}
		if sum != length(n) {
			t.Errorf("Parts(%d) = %v, which come to %d", n, parts, sum)
		}
	}
}

func TestText(t *testing.T) { // P8.1
	const most = "53375d23h53m38s427ms387us902ns"
	for _, c := range []struct {
		t    int
		want string
	}{
		{0, "0s"}, {1, "1ns"}, {-1, "-1ns"}, {10, "10ns"}, {micro, "1us"}, {milli, "1ms"}, {second, "1s"}, {minute, "1m"}, {hour, "1h"}, {day, "1d"}, {90 * second, "1m30s"}, {-90 * second, "-1m30s"},
		{day + 2*hour + 3*minute + 4*second + 5*milli + 6*micro + 7, "1d2h3m4s5ms6us7ns"}, {day + 1, "1d1ns"}, {10*day + 20*minute, "10d20m"}, {minute + milli, "1m1ms"}, {1500 * milli, "1s500ms"}, {second - 1, "999ms999us999ns"},
		{never - 1, most}, {never, "never"}, {never + 1, "never"}, {math.MaxInt, "never"},
		{2 - never, "-53375d23h53m38s427ms387us901ns"}, {1 - never, "-" + most}, {-never, "-" + most}, {-never - 1, "-" + most}, {math.MinInt, "-" + most},
	} {
		if got := Text(c.t); got != c.want {
			t.Errorf("Text(%d) = %q, not %q", c.t, got, c.want)
		}
	}
}

// TestTextAgainstParts writes each text anew, part by part.
func TestTextAgainstParts(t *testing.T) { // P8.1
	for _, n := range numbers() {
		want, parts := "", Parts(n)
		for i, name := range strings.Fields("d h m s ms us ns") {
			if parts[i] != 0 {
				want += strconv.Itoa(parts[i]) + name
			}
		}
		if n == 0 {
			want = "0s"
		} else if n < 0 {
			want = "-" + want
		} else if n >= never {
			want = "never"
		}
		if got := Text(n); got != want {
			t.Errorf("Text(%d) = %q, not %q", n, got, want)
		}
	}
}

func TestParse(t *testing.T) { // P8.1
	for _, c := range []struct {
		s    string
		want int
	}{
		{"0s", 0}, {"-0s", 0}, {"0d", 0}, {"0ns", 0}, {"0d0h0m0s0ms0us0ns", 0}, {"1d", day}, {"1h", hour}, {"1m", minute}, {"1s", second}, {"1ms", milli}, {"1us", micro}, {"1ns", 1}, {"-1ns", -1},
		{"1m30s", 90 * second}, {"-1m30s", -90 * second}, {"90s", 90 * second}, {"0m90s", 90 * second}, {"1d2h3m4s5ms6us7ns", day + 2*hour + 3*minute + 4*second + 5*milli + 6*micro + 7},
		{"1m1ms", minute + milli}, {"1m1s1ms", minute + second + milli}, {"1d7ns", day + 7}, {"100h", 100 * hour}, {"25h61m61s1001ms1001us1001ns", 25*hour + 61*minute + 61*second + 1001*milli + 1001*micro + 1001},
		{"1m0s", minute}, {"0d3m", 3 * minute}, {"-0h1ns", -1}, {"10s", 10 * second}, {"-10h", -10 * hour}, {"100ns", 100}, {"101ms", 101 * milli}, {"10d0h20m0s30ms", 10*day + 20*minute + 30*milli}, {"100000000000000000ns", 100000000000000000},
		{"never", never}, {"53375d23h53m38s427ms387us902ns", never - 1}, {"53375d23h53m38s427ms387us903ns", never}, {"53375d23h53m38s427ms387us904ns", never}, {"53376d", never},
		{"-53375d23h53m38s427ms387us902ns", 1 - never}, {"-53375d23h53m38s427ms387us903ns", -never}, {"-53375d23h53m38s427ms387us904ns", -never}, {"-53376d", -never},
		{"999999999999999999ns", 999999999999999999}, {"-999999999999999999ns", -999999999999999999}, {"999999999999999us", 999999999999999000}, {"999999999999999999us", never}, {"999999999999999999d", never}, {"-999999999999999999d", -never},
		{"999999999999999999d999999999999999999h999999999999999999m999999999999999999s999999999999999999ms999999999999999999us999999999999999999ns", never},
		{"-999999999999999999d999999999999999999h999999999999999999m999999999999999999s999999999999999999ms999999999999999999us999999999999999999ns", -never},
		{"4611686017s999999999999999999ns", never}, {"1s4611685us999999999999999999ns", 1000000000 + 4611685000 + 999999999999999999},
	} {
		if got, ok := Parse(c.s); got != c.want || !ok {
			t.Errorf("Parse(%q) = %d, %t, not %d", c.s, got, ok, c.want)
		}
	}
}

func TestParseWrong(t *testing.T) { // P8.1
	for _, s := range []string{
		"", "-", "0", "1", "-1", "90", "s", "ns", "-s", "d1", "s1", "1d2", "1d-", "1s1", "--1s", "--", "1-s", "1s-", "1s-1ms", "+1s", "-+1s", "1+s",
		"1s1m", "1h1d", "1ns1us", "1us1ms", "1ms1s", "30s1m", "1s1s", "1d1d", "1ns1ns", "0s0s", "1ms1ms", "1m1m", "1d1h1d", "1d1s1h", "1m1s1m", "1h1ms1s",
		"1d 2h", " 1s", "1s ", "1 s", "- 1s", "1s\n", "\x001s", "1s\x00", "1.5s", "1,5s", "1_0s", "1e3s", "0x1s", "1\u00a0s",
		"1D", "1H", "1M", "1S", "1MS", "1Ms", "1mS", "1NS", "1w", "1y", "1mo", "1min", "1sec", "1dd", "1dh", "1hm", "1sm", "1msus", "1n", "1u", "1sn", "1su", "1mss", "1nss", "1\u00b5s", "1\u03bcs", "1x", "1dx", "1d1x", "1x1d", "1day",
		"never ", " never", "Never", "NEVER", "-never", "+never", "nevers", "neve", "never1s", "1snever", "nevernever", "1never", "0never",
		"1000000000000000000ns", "4611686018427387902ns", "0000000000000000000s", "0000000000000000001s", "-1000000000000000000d", "1d1000000000000000000ns", "1000000000000000000d1ns", "9223372036854775808ns", "18446744073709551617ns",
		"03m", "00s", "01s", "-00s", "-01h", "007s", "010s", "1m00s", "1m030s", "01m30s", "-01m030s", "1d02h", "0d00h", "00d0h", "0d01h", "1s0000ns", "000000000000000001ns", "000000000000000000d", "010000000000000000ns",
		"1d2h3m4s5ms6us7ns8", "1d2h3m4s5ms6us7ns8ns", "1d2h3m4s5ms6us7ns8d", "01", "d", "dhms",
		"\u0661s", "1\u0661s", "\uff11s", "\xffs", "1\xffs", "1s\x80", "/s", ":s", "1/s", "1:s",
		strings.Repeat("9", 1000) + "s", strings.Repeat("0", 1000) + "s", strings.Repeat("1s", 1000), strings.Repeat("s", 1000), strings.Repeat("-", 1000), "1" + strings.Repeat("s", 1000),
	} {
		if got, ok := Parse(s); got != 0 || ok {
			t.Errorf("Parse(%q) = %d, %t, not false", s, got, ok)
		}
	}
}

// durations are all texts of parts; each part's number is a group of its own, without a needless 0.
var durations = regexp.MustCompile(strings.ReplaceAll("^(-?)(?:Nd)?(?:Nh)?(?:Nm)?(?:Ns)?(?:Nms)?(?:Nus)?(?:Nns)?$", "N", "(0|[1-9][0-9]{0,17})"))

// read is a text's duration, by numbers of any size.
func read(s string) (int, bool) {
	if s == "never" {
		return never, true
	}
	l := durations.FindStringSubmatch(s)
	if l == nil || s == "" || s == "-" {
		return 0, false
	}
	sum := new(big.Int)
	for i, unit := range []int64{day, hour, minute, second, milli, micro, 1} {
		if n, ok := new(big.Int).SetString(l[2+i], 10); ok {
			sum.Add(sum, n.Mul(n, big.NewInt(unit)))
		}
	}
	if sum.Cmp(big.NewInt(never)) > 0 {
		sum.SetInt64(never)
	}
	if l[1] != "" {
		sum.Neg(sum)
	}
	return int(sum.Int64()), true
}

func checkRead(t *testing.T, s string) bool {
	want, right := read(s)
	if got, ok := Parse(s); got != want || ok != right {
		t.Fatalf("Parse(%q) = %d, %t, not %d, %t", s, got, ok, want, right)
	}
	return right
}

// TestParseBytes puts each byte at each place of texts, in place of the one there and ahead of it, and
// takes that one out.
func TestParseBytes(t *testing.T) { // P8.1
	for _, text := range []string{"-1d22h3m4s5ms66us7ns", "1m30s", "0s", "never", "-9ms", "123456789012345678s1ns"} {
		for i := range len(text) {
			checkRead(t, text[:i]+text[i+1:])
			for b := range 256 {
				checkRead(t, text[:i]+string([]byte{byte(b)})+text[i+1:])
				checkRead(t, text[:i]+string([]byte{byte(b)})+text[i:])
			}
		}
	}
}

// TestParseShort reads all short texts of some bytes.
func TestParseShort(t *testing.T) { // P8.1
	right := 0
	var longer func(s string)
	longer = func(s string) {
		if checkRead(t, s) {
			right++
		}
		if len(s) == 6 {
			return
		}
		for _, b := range "07dhmsun-" {
			longer(s + string(b))
		}
	}
	longer("")
	if right < 500 {
		t.Errorf("only %d texts were read", right)
	}
}

// TestParseParts reads texts of parts, most of which are in order.
func TestParseParts(t *testing.T) { // P8.1
	r := rand.New(rand.NewSource(9))
	names := strings.Fields("d h m s ms us ns")
	right := 0
	for range 50000 {
		s := strings.Repeat("-", r.Intn(2))
		for _, name := range names {
			for r.Intn(20) < 9 {
				if r.Intn(20) == 0 {
					name = names[r.Intn(7)]
				}
				digits := strconv.FormatUint(r.Uint64(), 10)
				digits = digits[:min(1+r.Intn(19), len(digits))]
				if r.Intn(8) == 0 {
					digits = "0"
				}
				s += strings.Repeat("0", r.Intn(40)/38) + digits + name
				if r.Intn(8) > 0 {
					break
				}
			}
		}
		if checkRead(t, s) {
			right++
		}
	}
	if right < 10000 || right > 40000 {
		t.Errorf("%d texts were read", right)
	}
}

// TestParseNeedless puts zeros ahead of each part's number, of all lengths, in texts of one part and of all.
func TestParseNeedless(t *testing.T) { // P8.1
	names := strings.Fields("d h m s ms us ns")
	for i, name := range names {
		ahead, behind := "", ""
		for j, other := range names {
			if j < i {
				ahead += "1" + other
			} else if j > i {
				behind += "0" + other
			}
		}
		for _, digits := range []string{"0", "1", "7", "10", "100", "305", "12345678", "99999999999999999", "100000000000000000", "999999999999999999"} {
			for _, around := range [][2]string{{"", ""}, {"-", ""}, {ahead, behind}, {"-" + ahead, behind}} {
				text := around[0] + digits + name + around[1]
				if !checkRead(t, text) {
					t.Errorf("Parse(%q): false", text)
				}
				for zeros := 1; zeros <= 19; zeros++ {
					text := around[0] + strings.Repeat("0", zeros) + digits + name + around[1]
					if got, ok := Parse(text); got != 0 || ok {
						t.Errorf("Parse(%q) = %d, %t, not false", text, got, ok)
					}
				}
			}
		}
	}
}

func TestReadOfTexts(t *testing.T) { // P8.2
	for _, n := range numbers() {
		want := min(max(n, 1-never), never) // a time below those told in parts has the text of the last one
		if got, ok := Parse(Text(n)); got != want || !ok {
			t.Errorf("Parse(%q) = %d, %t, not %d", Text(n), got, ok, want)
		}
	}
}

func TestFloor(t *testing.T) { // P8.1
	for _, c := range [][3]int{
		{8, 5, 5}, {10, 5, 10}, {14, 5, 10}, {0, 5, 0}, {4, 5, 0}, {-1, 5, -5}, {-5, 5, -5}, {-6, 5, -10}, {7, 1, 7}, {-7, 1, -7}, {90 * second, minute, minute}, {-90 * second, minute, -2 * minute},
		{8, 0, 8}, {8, -1, 8}, {8, -5, 8}, {8, math.MinInt, 8}, {8, never + 1, 8}, {8, math.MaxInt, 8}, {-8, 0, -8}, {-8, never + 1, -8},
		{math.MaxInt, 0, never}, {math.MinInt, 0, -never}, {never + 1, -5, never}, {-never - 1, math.MaxInt, -never},
		{8, never, 0}, {-8, never, -never}, {never, never, never}, {never - 1, never, 0}, {math.MaxInt, never, never}, {-never, never, -never}, {1 - never, never, -never}, {math.MinInt, never, -never}, {0, never, 0},
		{8, never - 1, 0}, {never, never - 1, never - 1}, {-never, never - 1, -never}, {-1, never - 1, 1 - never},
		{never, 1, never}, {never, 2, never - 1}, {math.MaxInt, 2, never - 1}, {never, 10, never - 3}, {math.MaxInt, second, 4611686018000000000}, {-never, 1, -never}, {-never, 2, -never}, {math.MinInt, second, -never}, {1 - never, 2, 1 - never}, {2 - never, 4, -never}, {5 - never, 4, 3 - never},
	} {
		if got := Floor(c[0], c[1]); got != c[2] {
			t.Errorf("Floor(%d, %d) = %d, not %d", c[0], c[1], got, c[2])
		}
	}
}

func TestRound(t *testing.T) { // P8.1
	for _, c := range [][3]int{
		{8, 5, 10}, {7, 5, 5}, {10, 5, 10}, {12, 5, 10}, {13, 5, 15}, {0, 5, 0}, {2, 5, 0}, {3, 5, 5}, {-2, 5, 0}, {-3, 5, -5}, {-7, 5, -5}, {-8, 5, -10}, {7, 1, 7}, {-7, 1, -7},
		{1, 2, 2}, {3, 2, 4}, {-1, 2, 0}, {-3, 2, -2}, {2, 4, 4}, {-2, 4, 0}, {-6, 4, -4}, {90 * second, minute, 2 * minute}, {90*second - 1, minute, minute}, {-90 * second, minute, -minute}, {-90*second - 1, minute, -2 * minute},
		{8, 0, 8}, {8, -1, 8}, {8, -5, 8}, {8, math.MinInt, 8}, {8, never + 1, 8}, {8, math.MaxInt, 8}, {-8, 0, -8}, {-8, never + 1, -8},
		{math.MaxInt, 0, never}, {math.MinInt, 0, -never}, {never + 1, -5, never}, {-never - 1, math.MaxInt, -never},
		{8, never, 0}, {1<<61 - 1, never, 0}, {1 << 61, never, never}, {-8, never, 0}, {1 - 1<<61, never, 0}, {-1 << 61, never, -never}, {never, never, never}, {-never, never, -never}, {math.MaxInt, never, never}, {math.MinInt, never, -never},
		{1<<61 - 1, never - 1, never - 1}, {1<<61 - 2, never - 1, 0}, {1 - 1<<61, never - 1, 0}, {-1 << 61, never - 1, 1 - never}, {never, never - 1, never - 1}, {-never, never - 1, 1 - never},
		{never, 1, never}, {never, 2, never}, {math.MaxInt, 2, never}, {never, 4, never}, {never - 1, 4, never}, {never - 2, 4, never - 3}, {never, 10, never - 3}, {never, second, 4611686018000000000}, {math.MaxInt, day, never}, {53375*day + 12*hour, day, never}, {53375*day + 12*hour - 1, day, 53375 * day},
		{-never, 1, -never}, {-never, 2, 1 - never}, {math.MinInt, 2, 1 - never}, {-never, 4, -never}, {1 - never, 4, 3 - never}, {-never, second, -4611686018000000000}, {math.MinInt, day, -never},
	} {
		if got := Round(c[0], c[1]); got != c[2] {
			t.Errorf("Round(%d, %d) = %d, not %d", c[0], c[1], got, c[2])
		}
	}
}

// TestMultiples holds Floor and Round against numbers of any size.
func TestMultiples(t *testing.T) { // P8.1
	units := []int{1, 2, 3, 4, 5, 7, 10, 60, 1 << 30, 1 << 61, 1<<61 - 1, 1<<61 + 1, never/2 + 1, never - 1, never, micro, milli, second, minute, hour, day, api.MaxTime - day}
	for _, n := range numbers() {
		units := append(units[:len(units):len(units)], n) // n itself may be a unit, or none
		for _, unit := range units {
			floor, round := kept(n), kept(n)
			if unit >= 1 && unit <= never {
				down, rest := new(big.Int), new(big.Int)
				down.DivMod(big.NewInt(int64(kept(n))), big.NewInt(int64(unit)), rest)
				down.Mul(down, big.NewInt(int64(unit)))
				near := new(big.Int).Set(down)
				if rest.Lsh(rest, 1).Cmp(big.NewInt(int64(unit))) >= 0 {
					near.Add(near, big.NewInt(int64(unit)))
				}
				floor, round = bounded(down), bounded(near)
			}
			if got := Floor(n, unit); got != floor {
				t.Errorf("Floor(%d, %d) = %d, not %d", n, unit, got, floor)
			}
			if got := Round(n, unit); got != round {
				t.Errorf("Round(%d, %d) = %d, not %d", n, unit, got, round)
			}
		}
	}
}

// bounded is the time that a whole number of any size counts as.
func bounded(n *big.Int) int {
	if n.Cmp(big.NewInt(never)) > 0 {
		return never
	}
	if n.Cmp(big.NewInt(-never)) < 0 {
		return -never
	}
	return int(n.Int64())
}
