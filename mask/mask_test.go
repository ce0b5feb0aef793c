package mask

import (
	"fmt"
	"math"
	"math/rand"
	"slices"
	"strings"
	"testing"
)

// cpus are all processors, and numbers that are none: those close by, those whose low bits are a processor's, and the ends of an int.
func cpus() []int {
	l := []int{math.MinInt, math.MinInt + 1, -1 << 32, -65536, -64, -32, -17, -16, -2, -1}
	for cpu := range 20 {
		l = append(l, cpu)
	}
	return append(l, 31, 32, 33, 63, 64, 65, 255, 256, 65535, 65536, 1<<32, 1<<32+1, math.MaxInt-1, math.MaxInt)
}

// raised are numbers that count as one mask: with none of the higher bits, with some, with all of them.
func raised(n int) []Mask {
	m := Mask(n)
	return []Mask{m, m | 1<<16, m | 1<<31, m | 0xabcd<<16, m | 0xffff<<16}
}

// members are the processors of a number below 65536, by halving it.
func members(n int) []int {
	var l []int
	for cpu := 0; n > 0; cpu, n = cpu+1, n/2 {
		if n%2 == 1 {
			l = append(l, cpu)
		}
	}
	return l
}

// textOf is the text of some processors, rising, by cutting them into stretches.
func textOf(l []int) string {
	if len(l) == 0 {
		return "-"
	}
	var parts []string
	for len(l) > 0 {
		n := 1
		for n < len(l) && l[n] == l[0]+n {
			n++
		}
		if n == 1 {
			parts = append(parts, fmt.Sprint(l[0]))
		} else {
			parts = append(parts, fmt.Sprintf("%d-%d", l[0], l[n-1]))
		}
		l = l[n:]
	}
	return strings.Join(parts, ",")
}

// texts are those of all masks.
func texts() map[string]Mask {
	all := map[string]Mask{}
	for n := range 65536 {
		all[textOf(members(n))] = Mask(n)
	}
	return all
}

// P9.1: the chapter's example.
func TestExample(t *testing.T) {
	m := Of(0, 1, 2, 5)
	if m != 39 || m.String() != "0-2,5" || m.Len() != 4 || !slices.Equal(m.List(), []int{0, 1, 2, 5}) {
		t.Error(uint32(m), m.String(), m.Len(), m.List())
	}
}

// P9.1: Of takes processors in any order, and often; what is none is left out.
func TestOf(t *testing.T) {
	for _, c := range []struct {
		l    []int
		want Mask
	}{
		{nil, 0}, {[]int{}, 0}, {[]int{0}, 1}, {[]int{15}, 32768}, {[]int{16}, 0}, {[]int{-1}, 0}, {[]int{5, 0, 2, 1}, 39},
		{[]int{3, 3, 3}, 8}, {[]int{-1, 15, 16, 0, 17}, 32769}, {[]int{math.MinInt, math.MaxInt, 32, 64, 7, -64}, 128},
		{[]int{15, 14, 13, 12, 11, 10, 9, 8, 7, 6, 5, 4, 3, 2, 1, 0, 0, 15}, 65535},
	} {
		before := slices.Clone(c.l)
		if got := Of(c.l...); got != c.want || !slices.Equal(c.l, before) {
			t.Errorf("Of(%v) = %d, not %d", before, got, c.want)
		}
	}
	for _, cpu := range cpus() {
		want := Mask(0)
		if cpu >= 0 && cpu <= 15 {
			want = Mask(math.Pow(2, float64(cpu)))
		}
		if got := Of(cpu); got != want {
			t.Errorf("Of(%d) = %d, not %d", cpu, got, want)
		}
	}
	for n := range 65536 {
		if got := Of(members(n)...); got != Mask(n) {
			t.Fatalf("Of(%v) = %d", members(n), got)
		}
	}
}

// P9.1: all masks, whatever their higher bits are, by the calls that take nothing.
func TestAll(t *testing.T) {
	for n := range 65536 {
		want := members(n)
		for _, m := range raised(n) {
			if got := m.List(); !slices.Equal(got, want) || m.Len() != len(want) {
				t.Fatal(uint32(m), got, m.Len(), want)
			}
			first, ok := m.First()
			if ok != (n != 0) || ok && first != want[0] || !ok && first != 0 {
				t.Fatal(uint32(m), first, ok)
			}
			if got := m.String(); got != textOf(want) {
				t.Fatal(uint32(m), got, textOf(want))
			}
		}
	}
}

// P9.1: all masks, and processors and what is none.
func TestCPUs(t *testing.T) {
	l := cpus()
	for n := range 65536 {
		want := members(n)
		for i, m := range raised(n) {
			if i > 0 && n%7 != 0 {
				continue
			}
			for _, cpu := range l {
				checkCPU(t, m, want, cpu)
			}
		}
	}
}

// checkCPU holds Has, Next and Without against a mask's processors.
func checkCPU(t *testing.T, m Mask, l []int, cpu int) {
	t.Helper()
	has := slices.Contains(l, cpu)
	if m.Has(cpu) != has {
		t.Fatal("has", uint32(m), cpu)
	}
	next, ok := 0, len(l) > 0
	if ok {
		next = l[0]
		if at := slices.IndexFunc(l, func(o int) bool { return o > cpu }); at >= 0 {
			next = l[at]
		}
	}
	if got, is := m.Next(cpu); got != next || is != ok {
		t.Fatal("next", uint32(m), cpu, got, is, next, ok)
	}
	rest := m % 65536
	if has {
		rest -= Of(cpu)
	}
	if got := m.Without(cpu); got != rest {
		t.Fatal("without", uint32(m), cpu, uint32(got), uint32(rest))
	}
}

// P9.1: Next of some masks.
func TestNext(t *testing.T) {
	for _, c := range []struct {
		m         Mask
		cpu, want int
		ok        bool
	}{
		{0, 0, 0, false}, {0, -1, 0, false}, {1 << 16, 3, 0, false}, {0xffff << 16, math.MaxInt, 0, false},
		{39, -1, 0, true}, {39, 0, 1, true}, {39, 2, 5, true}, {39, 3, 5, true}, {39, 5, 0, true}, {39, 15, 0, true}, {39, 99, 0, true}, {39, math.MinInt, 0, true}, {39, math.MaxInt, 0, true},
		{32, 5, 5, true}, {32, 4, 5, true}, {32, 6, 5, true}, {32768, 14, 15, true}, {32768, 15, 15, true}, {32770, 15, 1, true}, {32770, 1, 15, true},
	} {
		if got, ok := c.m.Next(c.cpu); got != c.want || ok != c.ok {
			t.Errorf("Mask(%d).Next(%d) = %d, %v", c.m, c.cpu, got, ok)
		}
	}
}

// P9.1: Pick, at numbers of both signs, and at the ends of an int.
func TestPick(t *testing.T) {
	for _, c := range []struct {
		m       Mask
		n, want int
		ok      bool
	}{
		{0, 0, 0, false}, {0, 1, 0, false}, {0, -1, 0, false}, {1 << 16, math.MinInt, 0, false}, {0, math.MaxInt, 0, false},
		{39, 0, 0, true}, {39, 1, 1, true}, {39, 3, 5, true}, {39, 4, 0, true}, {39, 7, 5, true}, {39, -1, 5, true}, {39, -2, 2, true}, {39, -4, 0, true}, {39, -5, 5, true}, {39, math.MaxInt, 5, true}, {39, math.MinInt, 0, true}, {39, math.MinInt + 1, 1, true},
		{32768, math.MinInt, 15, true}, {32768, math.MaxInt, 15, true}, {7, math.MinInt, 1, true}, {7, math.MaxInt, 1, true},
	} {
		if got, ok := c.m.Pick(c.n); got != c.want || ok != c.ok {
			t.Errorf("Mask(%d).Pick(%d) = %d, %v", c.m, c.n, got, ok)
		}
	}
	for n := 1; n < 65536; n++ {
		l := members(n)
		m := raised(n)[n%5]
		up, down := 0, len(l)-1
		for turn := range 35 {
			if got, ok := m.Pick(turn); !ok || got != l[up] {
				t.Fatal(uint32(m), turn, got, ok)
			}
			if got, ok := m.Pick(-1 - turn); !ok || got != l[down] {
				t.Fatal(uint32(m), -1-turn, got, ok)
			}
			if up++; up == len(l) {
				up = 0
			}
			if down--; down < 0 {
				down = len(l) - 1
			}
		}
	}
}

// P9.2: each mask is read of its text; no two have one text.
func TestTextIsRead(t *testing.T) {
	all := texts()
	if len(all) != 65536 {
		t.Fatal(len(all))
	}
	for n := range 65536 {
		for _, m := range raised(n)[:2] {
			if got, ok := Parse(m.String()); !ok || got != Mask(n) {
				t.Fatal(uint32(m), m.String(), uint32(got), ok)
			}
		}
	}
}

// checkParse holds Parse against the texts of all masks.
func checkParse(t *testing.T, all map[string]Mask, s string) {
	t.Helper()
	want, isText := all[s]
	if m, ok := Parse(s); m != want || ok != isText {
		t.Fatalf("Parse(%q) = %d, %v, not %d, %v", s, m, ok, want, isText)
	}
}

// P9.1, P9.2: what is no text isn't read.
func TestParseWrong(t *testing.T) {
	for _, s := range []string{
		"", " ", ",", "--", "-,", ",-", "-,0", "0,-", "0-", "-0", "-1", "0--1", "0-1-2", "0-0", "5-5", "2-1", "1,0", "0,0", "0,1", "0,1,2", "0-1,2", "0-2,2-4", "0-2,3", "0-2,1", "0,1-3", "2-3,0", "0-1,1-2",
		"00", "01", "0-01", "00-1", "+1", "0-+1", "1 ", " 1", "0, 2", "0 ,2", "0 -1", "0- 1", "16", "0-16", "15-16", "15,16", "16-17", "0-99", "-1-3", "0,,2", ",0", "0,", "0,2,", "0-1,", "0;2", "0.2", "0x1", "1e0", "1_0", "0b1", "a", "0,a", "٣", "0\x00", "\x000", "0\n", "0,2\xff", "0–2", "0−2",
		"18446744073709551616", "18446744073709551617", "0-18446744073709551617", "4294967296", "9223372036854775807", "0-9223372036854775807", "-9223372036854775808-3", "9999999999999999999999999", "0xffff", "65535", "ffff", "all", "none",
		strings.Repeat("0", 100000), strings.Repeat("0,", 100000), strings.Repeat("-", 100000), strings.Repeat(",", 100000), "0," + strings.Repeat("2", 100000), "0-2,5" + strings.Repeat(" ", 100000), strings.Repeat("0-15,", 1000) + "0-15",
	} {
		if m, ok := Parse(s); ok || m != 0 {
			t.Errorf("Parse(%.40q) = %d, %v", s, m, ok)
		}
	}
}

// P9.2: all short texts of the letters that stand in masks' texts, and of some that don't.
func TestParseShort(t *testing.T) {
	all := texts()
	letters := "01256-, +"
	row := []string{""}
	for range 6 {
		var longer []string
		for _, s := range row {
			checkParse(t, all, s)
			for _, c := range letters {
				longer = append(longer, s+string(c))
			}
		}
		row = longer
	}
	for _, s := range row {
		checkParse(t, all, s)
	}
}

// P9.2: texts of masks in which a few bytes were changed, left out, put in or said twice.
func TestParseSpoilt(t *testing.T) {
	all := texts()
	r := rand.New(rand.NewSource(9))
	for range 300000 {
		s := []byte(textOf(members(r.Intn(65536))))
		for range 1 + r.Intn(2) {
			at := r.Intn(len(s) + 1)
			end := at + r.Intn(len(s)+1-at)
			c := "0123456789-,, +a\x00\xff"[r.Intn(18)]
			switch r.Intn(4) {
			case 0:
				s = slices.Insert(s, at, c)
			case 1:
				s = slices.Delete(s, at, end)
			case 2:
				s = slices.Insert(s, at, slices.Clone(s[at:end])...)
			case 3:
				if at < len(s) {
					s[at] = c
				}
			}
		}
		checkParse(t, all, string(s))
	}
}

// P9.1: what List answers is the caller's own.
func TestListIsNew(t *testing.T) {
	m := Of(0, 1, 2, 5)
	l := m.List()
	l[0] = 9
	_ = append(l[:1], 8)
	if got := m.List(); !slices.Equal(got, []int{0, 1, 2, 5}) {
		t.Error(got)
	}
}
