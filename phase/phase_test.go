package phase

import (
	"math"
	"math/rand"
	"testing"
)

const edge = 1048576 // 2^20

// low is a float's zero below 0.
var low = math.Copysign(0, -1)

// parts are floats that may be a part of a whole number: ordinary ones, and those at the bounds.
func parts() []float64 {
	return []float64{0, low, 1, -1, 2, -3, 4, 7, -1000, 1023, 1024, -1025, edge / 2, edge - 1, 1 - edge, edge, -edge}
}

// wrong are floats that may be no part.
func wrong() []float64 {
	return []float64{0.5, -0.5, 1.25, edge - 0.5, -edge + 0.5, edge + 0.5, edge + 1, -edge - 1, 1 << 31, -1 << 40, 1 << 53, 1e300, -1e300,
		math.SmallestNonzeroFloat64, math.Nextafter(1, 2), math.Nextafter(1, 0), math.Nextafter(edge, 2*edge), math.MaxFloat64, 1 << 63, -1 << 63, 1 << 64,
		math.NaN(), math.Inf(1), math.Inf(-1)}
}

// wholes are whole numbers of the plane.
func wholes() []complex128 {
	var l []complex128
	for _, re := range parts() {
		for _, im := range parts() {
			l = append(l, complex(re, im))
		}
	}
	r := rand.New(rand.NewSource(5))
	for range 100 {
		l = append(l, complex(float64(r.Intn(2*edge+1)-edge), float64(r.Intn(2*edge+1)-edge)))
	}
	return l
}

// others are numbers that are none of the plane.
func others() []complex128 {
	var l []complex128
	for _, bad := range wrong() {
		for _, good := range parts() {
			l = append(l, complex(bad, good), complex(good, bad))
		}
		for _, bad2 := range wrong() {
			l = append(l, complex(bad, bad2))
		}
	}
	return l
}

// ints are a whole number's parts.
func ints(z complex128) (int, int) { return int(real(z)), int(imag(z)) }

// of is the number of two parts, and whether it is within the bounds.
func of(re, im int) (complex128, bool) {
	if max(re, -re, im, -im) > edge {
		return 0, false
	}
	return complex(float64(re), float64(im)), true
}

// same asks whether two numbers are the same to the bit: a zero below 0 is not 0 here.
func same(a, b complex128) bool {
	return math.Float64bits(real(a)) == math.Float64bits(real(b)) && math.Float64bits(imag(a)) == math.Float64bits(imag(b))
}

// P5.1: Right and Parts.
func TestRightAndParts(t *testing.T) {
	for _, z := range wholes() {
		re, im := ints(z)
		gotRe, gotIm, ok := Parts(z)
		if !Right(z) || !ok || gotRe != re || gotIm != im {
			t.Fatal(z, Right(z), gotRe, gotIm, ok)
		}
	}
	for _, z := range others() {
		re, im, ok := Parts(z)
		if Right(z) || ok || re != 0 || im != 0 {
			t.Fatal(z, Right(z), re, im, ok)
		}
	}
}

// P5.1: Whole.
func TestWhole(t *testing.T) {
	l := []int{0, 1, -1, 5, -700, edge - 1, 1 - edge, edge, -edge, edge + 1, -edge - 1, 1 << 32, -1 << 32, 1 << 53, math.MaxInt, math.MinInt}
	for _, re := range l {
		for _, im := range l {
			want, wantOK := complex128(0), false
			if re >= -edge && re <= edge && im >= -edge && im <= edge {
				want, wantOK = complex(float64(re), float64(im)), true
			}
			if z, ok := Whole(re, im); !same(z, want) || ok != wantOK {
				t.Fatal(re, im, z, ok)
			}
		}
	}
}

// turned is z turned to the left, step by step, by the parts alone.
func turned(z complex128, times int) complex128 {
	re, im := ints(z)
	for range times {
		re, im = -im, re
	}
	z, _ = of(re, im)
	return z
}

// P5.1: Turn; P5.2: four turns.
func TestTurn(t *testing.T) {
	counts := map[int]int{0: 0, 1: 1, 2: 2, 3: 3, 4: 0, 5: 1, 6: 2, 7: 3, -1: 3, -2: 2, -3: 1, -4: 0, -5: 3, -6: 2, 1001: 1, -1001: 3,
		1 << 40: 0, math.MaxInt: 3, math.MaxInt - 1: 2, math.MinInt: 0, math.MinInt + 1: 1}
	for _, z := range wholes() {
		for quarters, times := range counts {
			if got := Turn(z, quarters); !same(got, turned(z, times)) {
				t.Fatal(z, quarters, got)
			}
		}
		around := z
		for range 4 {
			around = Turn(around, 1)
		}
		if around != z || Turn(Turn(z, 3), -3) != z {
			t.Fatal(z, around)
		}
	}
	for _, z := range others() {
		for quarters := range counts {
			if got := Turn(z, quarters); !same(got, 0) {
				t.Fatal(z, quarters, got)
			}
		}
	}
}

// P5.1: Mul; P5.2: norms of products.
func TestMul(t *testing.T) {
	l := wholes()
	for _, a := range l {
		for _, b := range l {
			ar, ai := ints(a)
			br, bi := ints(b)
			want, wantOK := of(ar*br-ai*bi, ar*bi+ai*br)
			got, ok := Mul(a, b)
			if !same(got, want) || ok != wantOK {
				t.Fatal(a, b, got, ok, want, wantOK)
			}
			if ok && Norm(got) != Norm(a)*Norm(b) {
				t.Fatal(a, b, Norm(got))
			}
		}
	}
}

// P5.1: Mul at its bounds, and of numbers that are none.
func TestMulBounds(t *testing.T) {
	for _, c := range []struct {
		a, b, want complex128
		ok         bool
	}{
		{1 + 2i, 3 - 1i, 5 + 5i, true},
		{1024, 1024, edge, true},
		{1024, -1024, -edge, true},
		{1024, 1024i, edge * 1i, true},
		{1025, 1023, 1048575, true},
		{1025, 1024, 0, false},
		{1024i, 1025, 0, false},
		{edge, 2, 0, false},
		{edge + edge*1i, 1 + 1i, 0, false},
		{edge + edge*1i, edge - edge*1i, 0, false},
		{1 << 19 * (1 + 1i), 1 - 1i, edge, true},
		{1 << 19 * (1 + 1i), 1 + 1i, edge * 1i, true},
		{edge, 0, 0, true},
		{2, 0.5, 0, false},
		{0.5, 2, 0, false},
		{edge * 2, 0, 0, false},
	} {
		if got, ok := Mul(c.a, c.b); !same(got, c.want) || ok != c.ok {
			t.Error(c.a, c.b, got, ok)
		}
	}
	for _, bad := range others() {
		for _, good := range []complex128{0, 1, 1i, 2 + 4i, edge, bad} {
			if got, ok := Mul(bad, good); !same(got, 0) || ok {
				t.Fatal(bad, good, got, ok)
			}
			if got, ok := Mul(good, bad); !same(got, 0) || ok {
				t.Fatal(good, bad, got, ok)
			}
		}
	}
}

// P5.1: Norm.
func TestNorm(t *testing.T) {
	for _, z := range wholes() {
		if re, im := ints(z); Norm(z) != re*re+im*im {
			t.Fatal(z, Norm(z))
		}
	}
	for _, z := range others() {
		if Norm(z) != -1 {
			t.Fatal(z, Norm(z))
		}
	}
	if Norm(3+4i) != 25 || Norm(complex(-edge, edge)) != 1<<41 || Norm(0) != 0 {
		t.Error(Norm(3+4i), Norm(complex(-edge, edge)), Norm(0))
	}
}

// gone is where a walk ends, by its parts alone.
func gone(steps []uint8) (x, y, dx, dy int) {
	dx = 1
	for i, step := range steps {
		if i == 4096 {
			break
		}
		switch step & 3 {
		case 0:
			x, y = x+dx, y+dy
		case 1:
			dx, dy = -dy, dx
		case 2:
			dx, dy = dy, -dx
		case 3:
			dx, dy = -dx, -dy
		}
	}
	return
}

// P5.1: Walk of told steps.
func TestWalkTold(t *testing.T) {
	for _, c := range []struct {
		steps     []uint8
		at, along complex128
	}{
		{nil, 0, 1},
		{[]uint8{}, 0, 1},
		{[]uint8{0, 1, 0}, 1 + 1i, 1i},
		{[]uint8{1}, 0, 1i},
		{[]uint8{2}, 0, -1i},
		{[]uint8{3}, 0, -1},
		{[]uint8{2, 0, 0, 3, 0}, -1i, 1i},
		{[]uint8{4, 5, 8, 6, 7, 0}, 1i, -1},
		{[]uint8{252, 253, 254, 255}, 1, -1},
		{[]uint8{1, 1, 1, 1, 0}, 1, 1},
		{[]uint8{2, 2, 2, 2, 0}, 1, 1},
	} {
		if at, along := Walk(c.steps); !same(at, c.at) || !same(along, c.along) {
			t.Error(c.steps, at, along)
		}
	}
}

// P5.1: Walk of any steps, more than are gone among them; the steps stay as they were.
func TestWalkAny(t *testing.T) {
	r := rand.New(rand.NewSource(6))
	for _, n := range []int{1, 2, 3, 10, 100, 1000, 4095, 4096, 4097, 5000, 20000} {
		for range 20 {
			steps := make([]uint8, n)
			for i := range steps {
				steps[i] = uint8(r.Intn(256))
			}
			was := string(steps)
			x, y, dx, dy := gone(steps)
			at, along := Walk(steps)
			wantAt, _ := of(x, y)
			wantAlong, _ := of(dx, dy)
			if !same(at, wantAt) || !same(along, wantAlong) || string(steps) != was {
				t.Fatal(n, at, along)
			}
		}
	}
	ahead := make([]uint8, 4097)
	if at, _ := Walk(ahead[:4095]); at != 4095 {
		t.Error(at)
	}
	if at, _ := Walk(ahead[:4096]); at != 4096 {
		t.Error(at)
	}
	ahead[4096] = 1
	if at, along := Walk(ahead); at != 4096 || along != 1 {
		t.Error(at, along)
	}
}

// P5.1: Quarter, by the signs of both parts.
func TestQuarter(t *testing.T) {
	for _, z := range wholes() {
		re, im := ints(z)
		want := -1
		switch {
		case re > 0 && im >= 0:
			want = 0
		case re <= 0 && im > 0:
			want = 1
		case re < 0 && im <= 0:
			want = 2
		case re >= 0 && im < 0:
			want = 3
		}
		if got := Quarter(z); got != want {
			t.Fatal(z, got, want)
		}
	}
	for _, z := range others() {
		if got := Quarter(z); got != -1 {
			t.Fatal(z, got)
		}
	}
	for i, z := range []complex128{5, 3i, -2, -7i} {
		if Quarter(z) != i || Quarter(z*(1+1i)) != i || Quarter(z*(100+1i)) != i || Quarter(z*(1+100i)) != i {
			t.Error(z, Quarter(z))
		}
	}
}

// P5.1: Sum of told rows.
func TestSumTold(t *testing.T) {
	for _, c := range []struct {
		l    []complex128
		want complex128
		ok   bool
	}{
		{nil, 0, true},
		{[]complex128{}, 0, true},
		{[]complex128{3 - 4i}, 3 - 4i, true},
		{[]complex128{1, 1i, -5}, -4 + 1i, true},
		{[]complex128{complex(low, low)}, 0, true},
		{[]complex128{edge - 1, 1}, edge, true},
		{[]complex128{edge, 1}, 0, false},
		{[]complex128{edge, 1, -1}, 0, false},
		{[]complex128{edge, -1, 1}, edge, true},
		{[]complex128{-edge * 1i, -1i, 1i}, 0, false},
		{[]complex128{-edge * 1i, 1i, -1i}, -edge * 1i, true},
		{[]complex128{0.5, 0.5}, 0, false},
		{[]complex128{1, 0.5i, 0.5i}, 0, false},
		{[]complex128{edge + 1, -1}, 0, false},
		{[]complex128{-1, edge + 1}, 0, false},
		{[]complex128{1, 2, complex(math.NaN(), 0)}, 0, false},
		{[]complex128{complex(0, math.Inf(1)), complex(0, math.Inf(-1))}, 0, false},
	} {
		if got, ok := Sum(c.l); !same(got, c.want) || ok != c.ok {
			t.Error(c.l, got, ok)
		}
	}
}

// summed is a row's sum, by the parts alone.
func summed(l []complex128) (complex128, bool) {
	re, im := 0, 0
	for _, z := range l {
		x, y := ints(z)
		re, im = re+x, im+y
		if _, ok := of(re, im); !ok {
			return 0, false
		}
	}
	return of(re, im)
}

// P5.1: Sum of any rows; they stay as they were.
func TestSumAny(t *testing.T) {
	r := rand.New(rand.NewSource(7))
	all, bad := wholes(), others()
	for range 20000 {
		l := make([]complex128, r.Intn(12))
		for i := range l {
			l[i] = all[r.Intn(len(all))]
		}
		was := append([]complex128(nil), l...)
		want, wantOK := summed(l)
		if got, ok := Sum(l); !same(got, want) || ok != wantOK {
			t.Fatal(l, got, ok)
		}
		for i := range l {
			if !same(l[i], was[i]) {
				t.Fatal(l, was)
			}
		}
		if len(l) > 0 {
			l[r.Intn(len(l))] = bad[r.Intn(len(bad))]
			if got, ok := Sum(l); !same(got, 0) || ok {
				t.Fatal(l, got, ok)
			}
		}
	}
}
