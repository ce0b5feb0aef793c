package scale

import (
	"math"
	"math/big"
	"math/rand"
	"testing"

	"fusee/api"
)

const greatest = 1<<62 - 1

// wrongScales are those that may not be, each by one number alone, and by both.
func wrongScales() []Scale {
	return []Scale{
		{}, {0, 5}, {-1, 5}, {math.MinInt, 0}, {1 << 32, 0}, {1<<32 + 1, 32}, {math.MaxInt, 3},
		{1, -1}, {1, 33}, {1000, 64}, {1<<32 - 1, math.MinInt}, {1, math.MaxInt}, {0, 33}, {1 << 32, -1},
	}
}

// rightScales are ordinary ones, and those at the bounds.
func rightScales() []Scale {
	r := rand.New(rand.NewSource(4))
	l := []Scale{}
	for _, shift := range []int{0, 1, 2, 7, 16, 31, 32} {
		for _, factor := range []int{1, 2, 3, 10, 1000, 1<<31 - 1, 1 << 31, 1<<32 - 2, 1<<32 - 1, 1 + r.Intn(1<<32-1), 1 + r.Intn(1<<20)} {
			l = append(l, Scale{factor, shift})
		}
	}
	return l
}

// numbers are ordinary ones, and those around the bounds of nanoseconds, and of an int.
func numbers() []int {
	r := rand.New(rand.NewSource(5))
	l := []int{0, 1, 2, 3, 7, 999, 1000, api.Second, 1 << 30, 1<<31 - 1, 1 << 31, 1<<32 - 1, 1 << 32, 1<<32 + 1, 1 << 40, 1<<61 - 1, 1 << 61,
		greatest - 1, greatest, greatest + 1, greatest + 2, math.MaxInt - 1, math.MaxInt, -1, -2, -greatest, math.MinInt, math.MinInt + 1}
	for bits := 2; bits <= 64; bits += 2 {
		l = append(l, int(r.Uint64()>>(64-bits)))
	}
	return l
}

func wide(n int) *big.Int { return big.NewInt(int64(n)) }

// bounded is the nearest number that nanoseconds or cycles may be.
func bounded(n int) int { return min(max(n, 0), greatest) }

// kept is a whole number from 0 on, at most the greatest.
func kept(n *big.Int) int {
	if n.Cmp(wide(greatest)) > 0 {
		return greatest
	}
	return int(n.Int64())
}

// comes is what cycles come to, not bounded above.
func comes(s Scale, cycles int) *big.Int {
	n := new(big.Int).Mul(wide(cycles), wide(s.Factor))
	return n.Rsh(n, uint(s.Shift))
}

func TestRight(t *testing.T) { // P4.1
	for _, s := range rightScales() {
		if !Right(s) {
			t.Errorf("Right(%v) is false", s)
		}
	}
	for _, s := range wrongScales() {
		if Right(s) {
			t.Errorf("Right(%v) is true", s)
		}
	}
}

func TestNanos(t *testing.T) { // P4.1
	for _, c := range []struct {
		s             Scale
		cycles, nanos int
	}{
		{Scale{1000, 0}, 7, 7000}, {Scale{3, 1}, 1, 1}, {Scale{3, 1}, 2, 3}, {Scale{3, 1}, 3, 4}, {Scale{1, 32}, 1<<32 - 1, 0}, {Scale{1, 32}, 1 << 32, 1},
		{Scale{1, 0}, greatest, greatest}, {Scale{1, 0}, greatest - 1, greatest - 1}, {Scale{1, 0}, math.MaxInt, greatest}, {Scale{2, 0}, greatest, greatest},
		{Scale{2, 0}, 1 << 61, greatest}, {Scale{2, 0}, 1<<61 - 1, greatest - 1}, {Scale{4, 0}, 1 << 62, greatest}, {Scale{1<<32 - 1, 0}, 1 << 32, greatest},
		{Scale{1<<32 - 1, 32}, greatest, 1<<62 - 1<<30 - 1}, {Scale{1000, 0}, 0, 0}, {Scale{1000, 0}, -1, 0}, {Scale{1<<32 - 1, 0}, math.MinInt, 0},
	} {
		if got := Nanos(c.s, c.cycles); got != c.nanos {
			t.Errorf("Nanos(%v, %d) = %d, not %d", c.s, c.cycles, got, c.nanos)
		}
	}
	for _, s := range rightScales() {
		for _, n := range numbers() {
			if got, want := Nanos(s, n), kept(comes(s, bounded(n))); got != want {
				t.Fatalf("Nanos(%v, %d) = %d, not %d", s, n, got, want)
			}
		}
	}
}

func TestCycles(t *testing.T) { // P4.1
	for _, c := range []struct {
		s             Scale
		nanos, cycles int
	}{
		{Scale{1000, 0}, 7000, 7}, {Scale{1000, 0}, 7001, 8}, {Scale{1000, 0}, 6999, 7}, {Scale{3, 1}, 1, 1}, {Scale{3, 1}, 2, 2}, {Scale{3, 1}, 4, 3},
		{Scale{1, 32}, 1, 1 << 32}, {Scale{1, 32}, 1 << 30, greatest}, {Scale{1, 32}, 1<<30 - 1, 1<<62 - 1<<32}, {Scale{1, 32}, greatest, greatest},
		{Scale{1, 0}, greatest, greatest}, {Scale{1, 0}, greatest - 1, greatest - 1}, {Scale{1, 0}, math.MaxInt, greatest}, {Scale{1, 1}, 1 << 61, greatest}, {Scale{1, 2}, 1 << 62, greatest},
		{Scale{1000, 3}, 0, 0}, {Scale{1000, 3}, -1, 0}, {Scale{1, 32}, math.MinInt, 0},
	} {
		if got := Cycles(c.s, c.nanos); got != c.cycles {
			t.Errorf("Cycles(%v, %d) = %d, not %d", c.s, c.nanos, got, c.cycles)
		}
	}
	for _, s := range rightScales() {
		for _, n := range numbers() {
			least := new(big.Int).Lsh(wide(bounded(n)), uint(s.Shift))
			least.Add(least, wide(s.Factor-1))
			least.Div(least, wide(s.Factor))
			if got, want := Cycles(s, n), kept(least); got != want {
				t.Fatalf("Cycles(%v, %d) = %d, not %d", s, n, got, want)
			}
		}
	}
}

func TestCyclesAreLeast(t *testing.T) { // P4.2
	for _, s := range rightScales() {
		for _, n := range numbers() {
			cycles, nanos := Cycles(s, n), bounded(n)
			never := comes(s, greatest).Cmp(wide(nanos)) < 0
			if never != (Nanos(s, cycles) < nanos) || never && cycles != greatest {
				t.Fatalf("Cycles(%v, %d) = %d, which come to %d", s, n, cycles, Nanos(s, cycles))
			}
			if cycles > 0 && Nanos(s, cycles-1) >= nanos {
				t.Fatalf("Cycles(%v, %d) = %d, but one less comes to %d", s, n, cycles, Nanos(s, cycles-1))
			}
		}
	}
}

func TestWrongScalesComeToNothing(t *testing.T) { // P4.1
	for _, s := range wrongScales() {
		for _, n := range numbers() {
			if nanos, cycles, wrong := Nanos(s, n), Cycles(s, n), Error(s, n); nanos != 0 || cycles != 0 || wrong != 0 {
				t.Fatalf("of %v and %d: %d nanos, %d cycles, error %d", s, n, nanos, cycles, wrong)
			}
		}
	}
}

// rates are ordinary numbers of cycles each second, and all bounds from which on another shift holds.
func rates() []int {
	r := rand.New(rand.NewSource(6))
	l := []int{1, 2, 3, 7, 100, 1000, 32768, 1193182, 3579545, 14318180, 24000000, api.Second - 1, api.Second, api.Second + 1, 2400000001, 1<<40 - 1, 1 << 40}
	for shift := 0; shift <= 34; shift++ {
		at := int(uint64(api.Second) << shift >> 32)
		for d := -2; d <= 2; d++ {
			l = append(l, max(at+d, 1))
		}
	}
	for range 2000 {
		l = append(l, 1+int(r.Uint64()>>24)>>r.Intn(40))
	}
	return l
}

// rounded is Second times 2^shift by hertz, to the nearest one, halves up.
func rounded(hertz, shift int) *big.Int {
	n := new(big.Int).Lsh(wide(api.Second), uint(shift)+1)
	n.Add(n, wide(hertz))
	return n.Div(n, wide(2*hertz))
}

func TestMake(t *testing.T) { // P4.1
	for _, c := range []struct {
		hertz int
		s     Scale
	}{
		{1, Scale{4000000000, 2}}, {1000, Scale{4096000000, 12}}, {api.Second, Scale{1 << 31, 31}}, {api.Second + 1, Scale{1<<32 - 4, 32}},
		{1 << 31, Scale{2000000000, 32}}, {1 << 40, Scale{3906250, 32}},
		{1 << 39, Scale{7812500, 32}}, {3 << 38, Scale{5208333, 32}}, {1<<40 - 1, Scale{3906250, 32}},
		// No rate has a factor of just a half and something; these lie closely on either side of one.
		{1099511487039, Scale{3906250, 32}}, {1099511487038, Scale{3906251, 32}},
	} {
		if s, ok := Make(c.hertz); !ok || s != c.s {
			t.Errorf("Make(%d) = %v, %t, not %v", c.hertz, s, ok, c.s)
		}
	}
	for _, hertz := range rates() {
		s, ok := Make(hertz)
		if !ok || !Right(s) || rounded(hertz, s.Shift).Cmp(wide(s.Factor)) != 0 {
			t.Fatalf("Make(%d) = %v, %t", hertz, s, ok)
		}
		if s.Shift < 32 && rounded(hertz, s.Shift+1).Cmp(wide(1<<32)) < 0 {
			t.Fatalf("Make(%d) = %v: a greater shift would do", hertz, s)
		}
	}
	for _, hertz := range []int{0, -1, -1000, 1<<40 + 1, 1 << 41, math.MaxInt, math.MinInt} {
		if s, ok := Make(hertz); ok || s != (Scale{}) {
			t.Errorf("Make(%d) = %v, %t", hertz, s, ok)
		}
	}
}

func TestError(t *testing.T) { // P4.1
	for _, c := range []struct {
		s            Scale
		hertz, wrong int
	}{
		{Scale{1000000, 0}, 1000, 0}, {Scale{1000000, 0}, 1001, 1000000}, {Scale{999999, 0}, 1000, -1000}, {Scale{1, 32}, 1, -api.Second},
		{Scale{1<<32 - 1, 0}, 1 << 40, greatest - api.Second}, {Scale{1, 0}, api.Second, 0}, {Scale{1, 0}, 1 << 40, 1<<40 - api.Second},
		{Scale{1, 0}, 1<<40 + 1, 0}, {Scale{1, 0}, 0, 0}, {Scale{1, 0}, -1, 0}, {Scale{1, 0}, math.MinInt, 0}, {Scale{1, 0}, math.MaxInt, 0},
	} {
		if got := Error(c.s, c.hertz); got != c.wrong {
			t.Errorf("Error(%v, %d) = %d, not %d", c.s, c.hertz, got, c.wrong)
		}
	}
	for _, hertz := range rates() {
		s, _ := Make(hertz)
		if got, want := Error(s, hertz), kept(comes(s, hertz))-api.Second; got != want {
			t.Fatalf("Error(%v, %d) = %d, not %d", s, hertz, got, want)
		}
	}
}
