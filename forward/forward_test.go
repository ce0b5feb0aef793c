package forward

import (
	"math"
	"math/big"
	"math/rand"
	"testing"

	"fusee/api"
)

const never = api.MaxTime

// edges are ordinary numbers, those around the bounds of a time, and those around the bounds of an int.
func edges() []int {
	l := []int{0, math.MinInt, math.MinInt + 1, math.MaxInt}
	for _, n := range []int{1, 2, 3, 5, 10, 1000, 1 << 31, 1<<61 - 1, 1 << 61, never / 3, never - 6, never - 5, never - 1, never, never + 1, never + 2} {
		l = append(l, n, -n)
	}
	r := rand.New(rand.NewSource(3))
	for bits := 4; bits <= 64; bits += 12 {
		l = append(l, int(r.Uint64()>>(64-bits)), -int(r.Uint64()>>(64-bits)))
	}
	return l
}

// clamped is the time that n counts as.
func clamped(n int) int { return min(max(n, -never), never) }

// wide is a number of any size.
func wide(n int) *big.Int { return big.NewInt(int64(n)) }

// has is the n-th time of a series, if it has one: by the words of the chapter, with numbers of any size.
func has(first, period int, n *big.Int) (int, bool) {
	first, period = clamped(first), clamped(period)
	if n.Sign() < 0 || period <= 0 && n.Sign() > 0 {
		return 0, false
	}
	t := new(big.Int).Mul(wide(period), n)
	t.Add(t, wide(first))
	if t.Cmp(wide(never)) >= 0 {
		return 0, false
	}
	return int(t.Int64()), true
}

// passed is how many of a series aren't later than now: found by halving, as the series rises.
func passed(first, period, now int) int {
	come := func(n *big.Int) bool {
		t, ok := has(first, period, n)
		return ok && t <= clamped(now)
	}
	low, high := wide(-1), new(big.Int).Lsh(wide(1), 65)
	for {
		middle := new(big.Int).Add(low, high)
		middle.Rsh(middle, 1)
		if middle.Cmp(low) == 0 {
			return int(high.Int64())
		}
		if come(middle) {
			low = middle
		} else {
			high = middle
		}
	}
}

// each calls f with all triples of numbers that are worth it.
func each(f func(first, period, x int)) {
	l := edges()
	for _, first := range l {
		for _, period := range l {
			for _, x := range l {
				f(first, period, x)
			}
		}
	}
}

// near are times of a series that is long, and those around: there counting may go wrong by one.
func near(f func(first, period, x int)) {
	for _, first := range []int{-never, -never + 1, -17, 0, 10, 1 << 40, never - 40} {
		for _, period := range []int{1, 2, 5, 1000003, 1 << 41, never / 2, never - 1, never} {
			for _, n := range []int{0, 1, 2, 7, 1 << 20, (never - 1) / period} {
				if t, ok := has(first, period, wide(n)); ok {
					for d := -2; d <= 2; d++ {
						f(first, period, t+d)
					}
				}
			}
		}
	}
}

func TestNextAsInTheDocument(t *testing.T) { // P3.1
	for _, c := range [][5]int{
		{10, 5, 20, 25, 3}, {10, 5, 24, 25, 3}, {10, 5, 19, 20, 2}, {10, 5, 10, 15, 1},
		{10, 5, 9, 10, 0}, {10, 5, -100, 10, 0}, {-10, 5, 0, 5, 3},
		{10, 0, 9, 10, 0}, {10, 0, 10, never, 1}, {10, 0, 1000, never, 1}, {10, -5, 10, never, 1}, {10, math.MinInt, 9, 10, 0},
		{never, 5, 10, never, 0}, {never, 5, never, never, 0}, {never, 0, never, never, 0}, {math.MaxInt, 5, math.MaxInt, never, 0},
		{never - 5, 5, never - 6, never - 5, 0}, {never - 5, 5, never - 5, never, 1}, {never - 5, 4, never - 5, never - 1, 1},
		{never - 5, 4, never, never, 2}, {never - 5, 5, never, never, 1}, {10, never, 10, never, 1}, {-10, never, -10, never - 10, 1},
		{-1, math.MaxInt, 0, never - 1, 1}, {-never, never, 0, never, 2}, {math.MinInt, never, -1, 0, 1},
		{-never, 1, never, never, 2 * never}, {math.MinInt, 1, never - 2, never - 1, 2*never - 1},
	} {
		if next, skipped := Next(c[0], c[1], c[2]); next != c[3] || skipped != c[4] {
			t.Errorf("Next(%d, %d, %d) = %d, %d, not %d, %d", c[0], c[1], c[2], next, skipped, c[3], c[4])
		}
	}
}

func TestAgainstWords(t *testing.T) { // P3.1
	check := func(first, period, now int) {
		count := passed(first, period, now)
		if got := Count(first, period, now); got != count {
			t.Fatalf("Count(%d, %d, %d) = %d, not %d", first, period, now, got, count)
		}
		later, ok := has(first, period, wide(count))
		if !ok {
			later = never
		}
		if next, skipped := Next(first, period, now); next != later || skipped != count {
			t.Fatalf("Next(%d, %d, %d) = %d, %d, not %d, %d", first, period, now, next, skipped, later, count)
		}
		since, any := 0, count > 0
		if any {
			last, _ := has(first, period, wide(count-1))
			since = clamped(now) - last
		}
		if got, ok := Phase(first, period, now); got != since || ok != any {
			t.Fatalf("Phase(%d, %d, %d) = %d, %t, not %d, %t", first, period, now, got, ok, since, any)
		}
	}
	each(check)
	near(check)
}

func TestNth(t *testing.T) { // P3.1
	for _, c := range [][4]int{
		{10, 5, 0, 10}, {10, 5, 1, 15}, {10, 5, 3, 25}, {-10, 5, 2, 0},
		{10, 5, -1, never}, {10, 5, math.MinInt, never}, {10, 0, -1, never},
		{10, 0, 0, 10}, {10, 0, 1, never}, {10, -5, 0, 10}, {10, -5, 1, never},
		{never, 5, 0, never}, {math.MaxInt, 0, 0, never}, {never, -never, 1, never},
		{never - 5, 4, 1, never - 1}, {never - 5, 5, 1, never}, {never - 5, 6, 1, never},
		{-never, never, 1, 0}, {-never, never, 2, never}, {-5, never, 1, never - 5}, {-5, never, 2, never}, {-5, never, math.MaxInt, never},
		{math.MinInt, math.MaxInt, 1, 0}, {-never, 1, math.MaxInt, never}, {-never, 2, never - 1, never - 2}, {-never, 2, never, never},
		{-never, 1, 2*never - 1, never - 1}, {10, 1 << 61, 16, never},
	} {
		if got := Nth(c[0], c[1], c[2]); got != c[3] {
			t.Errorf("Nth(%d, %d, %d) = %d, not %d", c[0], c[1], c[2], got, c[3])
		}
	}
	each(func(first, period, n int) {
		want, ok := has(first, period, wide(n))
		if !ok {
			want = never
		}
		if got := Nth(first, period, n); got != want {
			t.Fatalf("Nth(%d, %d, %d) = %d, not %d", first, period, n, got, want)
		}
	})
}

func TestOver(t *testing.T) { // P3.1
	for _, c := range [][2]int{
		{0, 0}, {1, 1}, {-1, 0}, {math.MinInt, 0}, {2147483646, 2147483646}, {2147483647, 2147483647}, {2147483648, 2147483647}, {math.MaxInt, 2147483647},
	} {
		if got := Over(c[0]); got != c[1] {
			t.Errorf("Over(%d) = %d, not %d", c[0], got, c[1])
		}
	}
}

func TestPhase(t *testing.T) { // P3.1
	for _, c := range []struct {
		first, period, now, since int
		ok                        bool
	}{
		{10, 5, 9, 0, false}, {10, 5, 10, 0, true}, {10, 5, 14, 4, true}, {10, 5, 15, 0, true}, {-10, 7, 0, 3, true},
		{10, 0, 9, 0, false}, {10, 0, 10, 0, true}, {10, 0, 1000, 990, true}, {10, -3, 1000, 990, true},
		{never, 5, never, 0, false}, {never, 0, never, 0, false}, {math.MaxInt, 1, math.MaxInt, 0, false},
		{never - 5, 5, never - 1, 4, true}, {never - 5, 5, never, 5, true}, {never - 5, 5, math.MaxInt, 5, true},
		{math.MinInt, 0, 0, never, true}, {-never, 0, never, 2 * never, true},
	} {
		if since, ok := Phase(c.first, c.period, c.now); since != c.since || ok != c.ok {
			t.Errorf("Phase(%d, %d, %d) = %d, %t, not %d, %t", c.first, c.period, c.now, since, ok, c.since, c.ok)
		}
	}
}

func TestNextIsOnePeriodOn(t *testing.T) { // P3.2
	tried := 0
	check := func(first, period, now int) {
		// Without a period the series has no time that is one period later.
		if clamped(period) <= 0 {
			return
		}
		next, skipped := Next(first, period, now)
		if skipped == 0 {
			return
		}
		tried++
		if next-clamped(period) > clamped(now) {
			t.Fatalf("Next(%d, %d, %d) = %d, %d: a period less is later than now", first, period, now, next, skipped)
		}
		if next != never && next <= clamped(now) {
			t.Fatalf("Next(%d, %d, %d) = %d, %d: it isn't later than now", first, period, now, next, skipped)
		}
	}
	each(check)
	near(check)
	if tried < 1000 {
		t.Errorf("only %d were skipped", tried)
	}
}

func TestCountRises(t *testing.T) { // P3.1, P3.2
	for period := -1; period <= 7; period++ {
		count := 0
		for now := -30; now <= 60; now++ {
			if now == -12 || period > 0 && now > -12 && (now+12)%period == 0 {
				count++
			}
			if got := Count(-12, period, now); got != count {
				t.Fatalf("Count(-12, %d, %d) = %d, not %d", period, now, got, count)
			}
		}
	}
}
