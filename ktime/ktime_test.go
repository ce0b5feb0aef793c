package ktime

import (
	"math"
	"math/big"
	"math/rand"
	"slices"
	"testing"

	"fusee/api"
)

const never = api.MaxTime

// edges are ordinary numbers, those around the bounds of a time, and those around the bounds of an int.
func edges() []int {
	l := []int{0, math.MinInt, math.MinInt + 1, math.MaxInt}
	for _, n := range []int{1, 2, 3, 5, 12, 1000, api.Second, 1 << 31, 1 << 32, 1<<61 - 1, 1 << 61, 1<<61 + 1, never - 5, never - 1, never, never + 1, never + 2, math.MaxInt - 1} {
		l = append(l, n, -n)
	}
	return l
}

// numbers are the edges, and some of every size between them.
func numbers() []int {
	r := rand.New(rand.NewSource(1))
	l := edges()
	for bits := 1; bits <= 64; bits += 3 {
		l = append(l, int(r.Uint64()>>(64-bits)), -int(r.Uint64()>>(64-bits)))
	}
	return l
}

// kept is what a whole number of any size counts as.
func kept(n *big.Int) int {
	most := big.NewInt(never)
	least := big.NewInt(-never)
	if n.Cmp(most) > 0 {
		return never
	}
	if n.Cmp(least) < 0 {
		return -never
	}
	return int(n.Int64())
}

// exact is the time that t counts as, as a number of any size.
func exact(t int) *big.Int { return big.NewInt(int64(kept(big.NewInt(int64(t))))) }

func TestClamp(t *testing.T) { // P1.1
	for _, c := range [][2]int{{0, 0}, {7, 7}, {-7, -7}, {never - 1, never - 1}, {never, never}, {never + 1, never}, {math.MaxInt, never}, {1 - never, 1 - never}, {-never, -never}, {-never - 1, -never}, {math.MinInt, -never}} {
		if got := Clamp(c[0]); got != c[1] {
			t.Errorf("Clamp(%d) = %d, not %d", c[0], got, c[1])
		}
	}
}

func TestNever(t *testing.T) { // P1.1
	for _, n := range []int{never, never + 1, math.MaxInt} {
		if !Never(n) {
			t.Errorf("Never(%d) is false", n)
		}
	}
	for _, n := range []int{0, 1, -1, never - 1, -never, -never - 1, math.MinInt} {
		if Never(n) {
			t.Errorf("Never(%d) is true", n)
		}
	}
}

func TestAdd(t *testing.T) { // P1.1
	for _, c := range [][3]int{
		{2, 3, 5}, {2, -3, -1}, {-2, -3, -5},
		{never, -5, never}, {never, -never, never}, {math.MaxInt, math.MinInt, never},
		{-5, never, never - 5}, {-5, math.MaxInt, never - 5}, {-never, never, 0},
		{math.MinInt, never, 0}, {math.MinInt, 1, 1 - never},
		{never - 1, 1, never}, {never - 1, 2, never}, {never - 1, never - 1, never},
		{1 - never, -1, -never}, {1 - never, -2, -never}, {-never, -never, -never}, {math.MinInt, math.MinInt, -never},
	} {
		if got := Add(c[0], c[1]); got != c[2] {
			t.Errorf("Add(%d, %d) = %d, not %d", c[0], c[1], got, c[2])
		}
	}
}

func TestSub(t *testing.T) { // P1.1
	for _, c := range [][3]int{
		{5, 3, 2}, {3, 5, -2}, {-3, -5, 2},
		{never, 5, never}, {never, never, never}, {math.MaxInt, math.MaxInt, never},
		{5, never, 5 - never}, {0, math.MaxInt, -never}, {0, math.MinInt, never}, {-5, math.MinInt, never - 5},
		{never - 1, -1, never}, {never - 1, -never, never}, {-never, 1, -never}, {-never, never, -never}, {math.MinInt, math.MinInt, 0},
	} {
		if got := Sub(c[0], c[1]); got != c[2] {
			t.Errorf("Sub(%d, %d) = %d, not %d", c[0], c[1], got, c[2])
		}
	}
}

func TestMul(t *testing.T) { // P1.1
	for _, c := range [][3]int{
		{-3, 4, -12}, {3, -4, -12}, {-3, -4, 12}, {3, 4, 12}, {0, 9, 0}, {9, 0, 0}, {0, math.MinInt, 0},
		{never, 1, never}, {never, 2, never}, {never, math.MaxInt, never}, {math.MaxInt, 1, never},
		{never, 0, 0}, {never, -1, -never}, {never, math.MinInt, -never}, {-never, -1, never},
		{1, math.MaxInt, never}, {1, math.MinInt, -never}, {-1, math.MinInt, never}, {-1, math.MaxInt, -never},
		{2, 1 << 61, never}, {2, 1<<61 - 1, never - 1}, {-2, 1 << 61, -never}, {1 << 32, 1 << 32, never}, {1 << 31, 1 << 31, never},
		{math.MinInt, 1, -never}, {math.MinInt, math.MinInt, never}, {api.Second, 4611686018, 4611686018000000000}, {api.Second, 4611686019, never},
	} {
		if got := Mul(c[0], c[1]); got != c[2] {
			t.Errorf("Mul(%d, %d) = %d, not %d", c[0], c[1], got, c[2])
		}
	}
}

func TestUntil(t *testing.T) { // P1.1
	for _, c := range [][3]int{
		{5, 7, 2}, {7, 7, 0}, {8, 7, 0}, {-7, -5, 2}, {-5, 5, 10},
		{5, never, never}, {never, never, never}, {math.MaxInt, math.MaxInt, never}, {-never, never, never},
		{never, never - 1, 0}, {math.MaxInt, 0, 0}, {never - 2, never - 1, 1},
		{-never, never - 1, never}, {math.MinInt, 0, never}, {math.MinInt, -5, never - 5}, {math.MinInt, -never, 0}, {0, math.MinInt, 0},
	} {
		if got := Until(c[0], c[1]); got != c[2] {
			t.Errorf("Until(%d, %d) = %d, not %d", c[0], c[1], got, c[2])
		}
	}
}

func TestFirst(t *testing.T) { // P1.1
	for _, c := range []struct {
		l    []int
		want int
	}{
		{nil, never}, {[]int{}, never}, {[]int{4, 2, 9}, 2}, {[]int{2}, 2}, {[]int{9, 4, 2}, 2}, {[]int{2, 2}, 2}, {[]int{0, -1, 5}, -1},
		{[]int{never}, never}, {[]int{never, never - 1}, never - 1}, {[]int{math.MaxInt, never + 1}, never}, {[]int{math.MinInt, 3}, -never},
	} {
		before := slices.Clone(c.l)
		if got := First(c.l...); got != c.want {
			t.Errorf("First(%v) = %d, not %d", c.l, got, c.want)
		}
		if !slices.Equal(c.l, before) {
			t.Errorf("First changed %v to %v", before, c.l)
		}
	}
	if First() != never || First(4, 2, 9) != 2 {
		t.Error("First of times that are written out")
	}
}

func TestBetween(t *testing.T) { // P1.1
	for _, c := range [][4]int{
		{1, 5, 9, 5}, {1, 0, 9, 1}, {1, 10, 9, 9}, {1, 1, 9, 1}, {1, 9, 9, 9}, {5, 0, 5, 5},
		{9, 5, 1, 1}, {9, 0, 1, 1}, {9, 10, 1, 1}, {9, -10, -1, -1},
		{0, math.MaxInt, math.MaxInt, never}, {math.MinInt, math.MinInt, 0, -never}, {math.MaxInt, 0, math.MaxInt, never}, {math.MinInt, 0, math.MinInt, -never}, {math.MaxInt, 0, 5, 5}, {math.MinInt, 3, math.MaxInt, 3},
	} {
		if got := Between(c[0], c[1], c[2]); got != c[3] {
			t.Errorf("Between(%d, %d, %d) = %d, not %d", c[0], c[1], c[2], got, c[3])
		}
	}
}

// TestPairs holds the calls of two times against numbers of any size.
func TestPairs(t *testing.T) { // P1.1
	l := numbers()
	for _, a := range l {
		for _, b := range l {
			x, y := exact(a), exact(b)
			sum, less := kept(new(big.Int).Add(x, y)), kept(new(big.Int).Sub(x, y))
			until := max(kept(new(big.Int).Sub(y, x)), 0)
			if a >= never {
				sum, less = never, never
			}
			if b >= never {
				until = never
			}
			if got := Add(a, b); got != sum {
				t.Errorf("Add(%d, %d) = %d, not %d", a, b, got, sum)
			}
			if got := Sub(a, b); got != less {
				t.Errorf("Sub(%d, %d) = %d, not %d", a, b, got, less)
			}
			if got := Until(a, b); got != until {
				t.Errorf("Until(%d, %d) = %d, not %d", a, b, got, until)
			}
			if got, want := Mul(a, b), kept(new(big.Int).Mul(x, big.NewInt(int64(b)))); got != want {
				t.Errorf("Mul(%d, %d) = %d, not %d", a, b, got, want)
			}
			if got, want := First(a, b), kept(big.NewInt(int64(min(a, b)))); got != want {
				t.Errorf("First(%d, %d) = %d, not %d", a, b, got, want)
			}
		}
	}
}

// TestTriples holds Between against what the chapter says of it, case by case.
func TestTriples(t *testing.T) { // P1.1
	l := edges()
	for _, a := range l {
		for _, b := range l {
			for _, c := range l {
				low, at, high := kept(big.NewInt(int64(a))), kept(big.NewInt(int64(b))), kept(big.NewInt(int64(c)))
				want := at
				if low > high || at > high {
					want = high
				} else if at < low {
					want = low
				}
				if got := Between(a, b, c); got != want {
					t.Errorf("Between(%d, %d, %d) = %d, not %d", a, b, c, got, want)
				}
			}
		}
	}
}

func TestSumsNeverTurnRound(t *testing.T) { // P1.2
	l := numbers()
	slices.Sort(l)
	for _, c := range l {
		for i := 1; i < len(l); i++ {
			if low, high := Add(l[i-1], c), Add(l[i], c); high < low {
				t.Errorf("%d + %d is %d, but %d + %d is %d", l[i-1], c, low, l[i], c, high)
			}
		}
	}
}
