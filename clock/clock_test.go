package clock

import (
	"math"
	"math/big"
	"math/rand"
	"testing"

	"fusee/api"
)

const never = api.MaxTime

// row is a timekeeper by what its three clocks tell, without offsets.
type row struct {
	counter, mono, real, boot int
	suspended                 bool
	slept                     int // since it was suspended
	generation                int
}

// step is a call that changes a timekeeper.
type step struct {
	kind byte // 'a' Advance, 's' Set, 'j' Adjust, '-' Suspend, '+' Resume
	n    int
}

// do is a step of the row, by numbers of any size.
func (r *row) do(s step) api.Errno {
	switch s.kind {
	case 'a':
		if s.n < 0 || !within(r.counter, s.n) {
			return api.ErrInval
		}
		r.counter += s.n
		if r.suspended {
			r.slept += s.n
			return api.OK
		}
		r.mono, r.real, r.boot = r.mono+s.n, r.real+s.n, r.boot+s.n
	case 's':
		if !within(0, s.n) {
			return api.ErrInval
		}
		r.set(s.n)
	case 'j':
		if !within(r.real, s.n) {
			return api.ErrInval
		}
		r.set(r.real + s.n)
	case '-':
		if r.suspended {
			return api.ErrState
		}
		r.suspended, r.slept = true, 0
	case '+':
		if !r.suspended {
			return api.ErrState
		}
		r.suspended = false
		r.real, r.boot = r.real+r.slept, r.boot+r.slept
		if r.slept > 0 {
			r.generation++
		}
	}
	return api.OK
}

// set lets the row's Real be a time.
func (r *row) set(t int) {
	if t != r.real {
		r.generation++
	}
	r.real = t
}

// within asks whether a sum is from 0 to 2^60.
func within(a, b int) bool {
	sum := new(big.Int).Add(big.NewInt(int64(a)), big.NewInt(int64(b)))
	return sum.Sign() >= 0 && sum.Cmp(big.NewInt(1<<60)) <= 0
}

// do is a step of a timekeeper.
func do(c *Clock, s step) api.Errno {
	switch s.kind {
	case 'a':
		return c.Advance(s.n)
	case 's':
		return c.Set(s.n)
	case 'j':
		return c.Adjust(s.n)
	case '-':
		return c.Suspend()
	}
	return c.Resume()
}

// both is a step of both, which answer alike.
func (r *row) both(t *testing.T, c *Clock, s step) {
	t.Helper()
	before := *r
	want := r.do(s)
	if got := do(c, s); got != want {
		t.Fatalf("%c %d of %+v: %d, not %d", s.kind, s.n, before, got, want)
	}
	if want != api.OK && *r != before {
		t.Fatal("the row changed beside an error")
	}
	r.check(t, c)
	checkSteps(t, c, before, s)
}

// check holds all that a timekeeper tells against the row.
func (r *row) check(t *testing.T, c *Clock) {
	t.Helper()
	tells := [3]int{r.mono, r.real, r.boot}
	for clock, want := range tells {
		if got, ok := c.Now(clock); got != want || !ok {
			t.Fatalf("Now(%d) = %d, %v of %+v", clock, got, ok, *r)
		}
		if got, ok := c.Offset(clock); got != want-r.mono || !ok {
			t.Fatalf("Offset(%d) = %d, %v of %+v", clock, got, ok, *r)
		}
		if got := c.ToMono(clock, want); got != r.mono {
			t.Fatalf("ToMono(%d, %d) = %d of %+v", clock, want, got, *r)
		}
	}
	if c.Suspended() != r.suspended || c.Generation() != r.generation || c.Counter() != r.counter {
		t.Fatal(c.Suspended(), c.Generation(), c.Counter(), *r)
	}
}

// checkSteps: Mono and Boot never go back, and steps of Real leave both where they are (P11.2).
func checkSteps(t *testing.T, c *Clock, before row, s step) {
	t.Helper()
	mono, _ := c.Now(api.Mono)
	boot, _ := c.Now(api.Boot)
	if mono < before.mono || boot < before.boot {
		t.Fatal("back", mono, boot, before, s)
	}
	if ofReal := s.kind == 's' || s.kind == 'j'; ofReal && (mono != before.mono || boot != before.boot || c.Counter() != before.counter) {
		t.Fatal("a step of Real moved another clock", mono, boot, before, s)
	}
}

// noClocks are numbers that no clock has.
func noClocks() []int {
	return []int{-1, -2, -3, 3, 4, 5, 255, 256, 1 << 32, 1<<32 + 1, -1 << 32, math.MinInt, math.MinInt + 1, math.MaxInt}
}

// edges are numbers around those at which something changes.
func edges() []int {
	l := []int{0, math.MinInt, math.MinInt + 1, math.MaxInt, math.MaxInt - 1}
	for _, n := range []int{1, 2, 5, 12, 100, api.Second, 1 << 32, 1 << 59, 1<<60 - 12, 1<<60 - 1, 1 << 60, 1<<60 + 1, 1<<61 - 1, 1 << 61, 1<<61 + 1, never - 100, never - 1, never, never + 1} {
		l = append(l, n, -n)
	}
	return l
}

// starts are timekeepers to begin with, each with its row.
func starts(t *testing.T) (rows []row, clocks []*Clock) {
	for _, l := range [][]step{
		{},
		{{'a', 12}},
		{{'a', 12}, {'s', 100}},
		{{'a', 100}, {'s', 12}},
		{{'-', 0}},
		{{'a', 5}, {'s', 100}, {'-', 0}, {'a', 7}},
		{{'a', 5}, {'s', 100}, {'-', 0}, {'a', 7}, {'+', 0}},
		{{'a', 5}, {'-', 0}, {'a', 7}, {'s', 100}},
		{{'s', 1 << 60}},
		{{'s', 1 << 60}, {'a', 5}},
		{{'a', 1 << 60}},
		{{'a', 1<<60 - 1}},
		{{'a', 1 << 59}, {'s', 0}},
		{{'s', 1 << 60}, {'a', 1 << 60}},
		{{'-', 0}, {'a', 1 << 60}, {'s', 1 << 60}},
		{{'-', 0}, {'a', 1 << 60}, {'s', 1 << 60}, {'+', 0}},
	} {
		r, c := row{}, New()
		for _, s := range l {
			r.both(t, c, s)
		}
		rows, clocks = append(rows, r), append(clocks, c)
	}
	return rows, clocks
}

// P11.1: the chapter's example.
func TestExample(t *testing.T) {
	c := New()
	if c.Advance(5) != api.OK || c.Set(100) != api.OK || c.Advance(5) != api.OK {
		t.Fatal("a step failed")
	}
	mono, _ := c.Now(api.Mono)
	real, _ := c.Now(api.Real)
	boot, _ := c.Now(api.Boot)
	if mono != 10 || real != 105 || boot != 10 || c.Counter() != 10 || c.Generation() != 1 {
		t.Error(mono, real, boot, c.Counter(), c.Generation())
	}
}

// P11.1: a new timekeeper is at 0, and shares nothing with another; one that New didn't make is as a new one.
func TestNew(t *testing.T) {
	for _, c := range []*Clock{New(), {}} {
		r := row{}
		r.check(t, c)
		r.both(t, c, step{'a', 7})
		r.both(t, c, step{'s', 3})
		(&row{}).check(t, New())
	}
}

// P11.1: a nil timekeeper, whatever it is asked.
func TestNil(t *testing.T) {
	var c *Clock
	for _, n := range append(edges(), noClocks()...) {
		if a, s, j := c.Advance(n), c.Set(n), c.Adjust(n); a != api.ErrArg || s != api.ErrArg || j != api.ErrArg {
			t.Error(n, a, s, j)
		}
		if got, ok := c.Now(n); got != 0 || ok {
			t.Error("now", n, got, ok)
		}
		if got, ok := c.Offset(n); got != 0 || ok {
			t.Error("offset", n, got, ok)
		}
		for clock := range api.Kinds {
			if got := c.ToMono(clock, n); got != never {
				t.Error("to mono", clock, n, got)
			}
		}
		if got := c.ToMono(n, 5); got != never {
			t.Error("to mono", n, got)
		}
	}
	if a, b := c.Suspend(), c.Resume(); a != api.ErrArg || b != api.ErrArg || c.Suspended() || c.Generation() != 0 || c.Counter() != 0 {
		t.Error(a, b, c.Suspended(), c.Generation(), c.Counter())
	}
}

// P11.1: numbers that no clock has.
func TestNoSuchClock(t *testing.T) {
	_, clocks := starts(t)
	for _, c := range clocks {
		for _, clock := range noClocks() {
			if got, ok := c.Now(clock); got != 0 || ok {
				t.Error("now", clock, got, ok)
			}
			if got, ok := c.Offset(clock); got != 0 || ok {
				t.Error("offset", clock, got, ok)
			}
			for _, at := range edges() {
				if got := c.ToMono(clock, at); got != never {
					t.Error("to mono", clock, at, got)
				}
			}
		}
	}
}

// P11.1: Advance, Set and Adjust at their bounds, and far beyond, of timekeepers of all kinds.
func TestBounds(t *testing.T) {
	rows, clocks := starts(t)
	var l []step
	for _, n := range edges() {
		l = append(l, step{'a', n}, step{'s', n}, step{'j', n})
	}
	for i, r := range rows {
		for _, told := range []int{r.counter, r.real} {
			for d := -1; d <= 1; d++ {
				l = append(l, step{'a', 1<<60 - told + d}, step{'j', 1<<60 - told + d}, step{'j', -told + d})
			}
		}
		for _, s := range l {
			o, c := r, *clocks[i]
			o.both(t, &c, s)
			o.both(t, &c, step{'+', 0})
			o.both(t, &c, step{'a', 1})
		}
	}
}

// P11.1: which numbers Advance, Set and Adjust take, written out.
func TestErrors(t *testing.T) {
	for _, c := range []struct {
		steps []step
		last  step
		want  api.Errno
	}{
		{nil, step{'a', 0}, api.OK}, {nil, step{'a', -1}, api.ErrInval}, {nil, step{'a', math.MinInt}, api.ErrInval},
		{nil, step{'a', 1 << 60}, api.OK}, {nil, step{'a', 1<<60 + 1}, api.ErrInval}, {nil, step{'a', math.MaxInt}, api.ErrInval},
		{[]step{{'a', 1<<60 - 5}}, step{'a', 5}, api.OK}, {[]step{{'a', 1<<60 - 5}}, step{'a', 6}, api.ErrInval},
		{[]step{{'a', 1}}, step{'a', math.MaxInt}, api.ErrInval}, {[]step{{'-', 0}, {'a', 1 << 60}}, step{'a', 1}, api.ErrInval},
		{nil, step{'s', 0}, api.OK}, {nil, step{'s', -1}, api.ErrInval}, {nil, step{'s', 1 << 60}, api.OK}, {nil, step{'s', 1<<60 + 1}, api.ErrInval},
		{[]step{{'s', 1 << 60}}, step{'a', 1 << 60}, api.OK}, // Real goes on above the greatest time that it is set to
		{[]step{{'s', 9}}, step{'j', -9}, api.OK}, {[]step{{'s', 9}}, step{'j', -10}, api.ErrInval}, {[]step{{'s', 9}}, step{'j', 1<<60 - 9}, api.OK}, {[]step{{'s', 9}}, step{'j', 1<<60 - 8}, api.ErrInval},
		{[]step{{'s', 1 << 60}, {'a', 1}}, step{'j', 0}, api.ErrInval}, {[]step{{'s', 1 << 60}, {'a', 1}}, step{'j', -1}, api.OK}, {[]step{{'s', 1 << 60}, {'a', 1}}, step{'s', 1 << 60}, api.OK},
		{[]step{{'s', 9}}, step{'j', math.MinInt}, api.ErrInval}, {[]step{{'s', 9}}, step{'j', math.MaxInt}, api.ErrInval},
		{nil, step{'-', 0}, api.OK}, {[]step{{'-', 0}}, step{'-', 0}, api.ErrState}, {nil, step{'+', 0}, api.ErrState}, {[]step{{'-', 0}}, step{'+', 0}, api.OK},
		{[]step{{'-', 0}, {'+', 0}}, step{'+', 0}, api.ErrState}, {[]step{{'-', 0}, {'+', 0}}, step{'-', 0}, api.OK},
	} {
		k := New()
		for _, s := range c.steps {
			if e := do(k, s); e != api.OK {
				t.Fatal(c, s, e)
			}
		}
		if got := do(k, c.last); got != c.want {
			t.Errorf("%v, then %c %d: %d, not %d", c.steps, c.last.kind, c.last.n, got, c.want)
		}
	}
}

// P11.1: what all clocks tell, and how often offsets changed, behind each step of a walk.
func TestWalk(t *testing.T) {
	c := New()
	for i, w := range []struct {
		s                      step
		mono, real, boot       int
		counter, generation    int
		offsetReal, offsetBoot int
	}{
		{step{'a', 5}, 5, 5, 5, 5, 0, 0, 0},
		{step{'s', 5}, 5, 5, 5, 5, 0, 0, 0}, // to what it was
		{step{'j', 0}, 5, 5, 5, 5, 0, 0, 0},
		{step{'s', 100}, 5, 100, 5, 5, 1, 95, 0},
		{step{'j', -98}, 5, 2, 5, 5, 2, -3, 0},
		{step{'s', 100}, 5, 100, 5, 5, 3, 95, 0},
		{step{'-', 0}, 5, 100, 5, 5, 3, 95, 0},
		{step{'a', 7}, 5, 100, 5, 12, 3, 95, 0},
		{step{'-', 0}, 5, 100, 5, 12, 3, 95, 0},
		{step{'a', 1}, 5, 100, 5, 13, 3, 95, 0},
		{step{'+', 0}, 5, 108, 13, 13, 4, 103, 8}, // both offsets: once
		{step{'+', 0}, 5, 108, 13, 13, 4, 103, 8},
		{step{'a', 2}, 7, 110, 15, 15, 4, 103, 8},
		{step{'-', 0}, 7, 110, 15, 15, 4, 103, 8},
		{step{'+', 0}, 7, 110, 15, 15, 4, 103, 8}, // nothing went by
		{step{'-', 0}, 7, 110, 15, 15, 4, 103, 8},
		{step{'a', 4}, 7, 110, 15, 19, 4, 103, 8},
		{step{'s', 50}, 7, 50, 15, 19, 5, 43, 8},
		{step{'j', 3}, 7, 53, 15, 19, 6, 46, 8},
		{step{'a', 6}, 7, 53, 15, 25, 6, 46, 8},
		{step{'+', 0}, 7, 63, 25, 25, 7, 56, 18},
		{step{'a', 1}, 8, 64, 26, 26, 7, 56, 18},
	} {
		do(c, w.s)
		mono, _ := c.Now(api.Mono)
		real, _ := c.Now(api.Real)
		boot, _ := c.Now(api.Boot)
		ofMono, _ := c.Offset(api.Mono)
		ofReal, _ := c.Offset(api.Real)
		ofBoot, _ := c.Offset(api.Boot)
		if mono != w.mono || real != w.real || boot != w.boot || c.Counter() != w.counter || c.Generation() != w.generation || ofMono != 0 || ofReal != w.offsetReal || ofBoot != w.offsetBoot {
			t.Error(i, mono, real, boot, c.Counter(), c.Generation(), ofMono, ofReal, ofBoot)
		}
	}
}

// P11.1: ToMono at any time, also where Real is behind Mono; what never comes stays so.
func TestToMono(t *testing.T) {
	rows, clocks := starts(t)
	for i, r := range rows {
		for clock, told := range [3]int{r.mono, r.real, r.boot} {
			for _, at := range append(edges(), told-1, told+1, never-(told-r.mono), -never+(told-r.mono)) {
				want := big.NewInt(int64(min(max(at, -never), never)))
				want.Sub(want, big.NewInt(int64(told-r.mono)))
				if at >= never || want.Cmp(big.NewInt(never)) > 0 {
					want.SetInt64(never)
				}
				if want.Cmp(big.NewInt(-never)) < 0 {
					want.SetInt64(-never)
				}
				if got := clocks[i].ToMono(clock, at); int64(got) != want.Int64() {
					t.Fatalf("ToMono(%d, %d) = %d, not %d, of %+v", clock, at, got, want, r)
				}
			}
		}
		r.check(t, clocks[i]) // asking changed nothing
	}
	c := New()
	c.Set(100)
	c.Advance(20)
	for _, w := range [][3]int{{api.Mono, 50, 50}, {api.Real, 150, 50}, {api.Real, 50, -50}, {api.Boot, 50, 50}, {api.Real, never, never}, {api.Real, math.MaxInt, never}, {api.Real, -never, -never}, {api.Mono, math.MinInt, -never}} {
		if got := c.ToMono(w[0], w[1]); got != w[2] {
			t.Error(w, got)
		}
	}
}

// P11.1, P11.2: all short rows of steps.
func TestAllShort(t *testing.T) {
	l := []step{{'a', 3}, {'a', 0}, {'a', -1}, {'s', 3}, {'s', 0}, {'s', -1}, {'j', 2}, {'j', -3}, {'-', 0}, {'+', 0}}
	var try func(r row, c Clock, left int)
	try = func(r row, c Clock, left int) {
		if left == 0 {
			return
		}
		for _, s := range l {
			o, k := r, c
			o.both(t, &k, s)
			try(o, k, left-1)
		}
	}
	try(row{}, *New(), 5)
}

// P11.1, P11.2: long rows of any steps, by small numbers and by those at the bounds.
func TestAny(t *testing.T) {
	random := rand.New(rand.NewSource(11))
	far := edges()
	for range 400 {
		r, c := row{}, New()
		for range 300 {
			n := random.Intn(50) - 10
			switch random.Intn(8) {
			case 0:
				n = far[random.Intn(len(far))]
			case 1:
				n = random.Intn(1<<57) - 1<<55
			case 2:
				n = -r.real + random.Intn(3) - 1
			case 3:
				n = 1<<60 - r.real + random.Intn(3) - 1
			}
			r.both(t, c, step{"aaasj-+"[random.Intn(7)], n})
		}
	}
}

// P11.2: however Real is set, Mono and Boot tell the same as those of a timekeeper whose Real is left alone.
func TestRealAlone(t *testing.T) {
	random := rand.New(rand.NewSource(112))
	set, left := New(), New()
	for range 20000 {
		switch random.Intn(5) {
		case 0:
			set.Set(random.Intn(1 << 60))
		case 1:
			set.Adjust(random.Intn(1<<59) - 1<<58)
		case 2:
			n := random.Intn(1 << 40)
			set.Advance(n)
			left.Advance(n)
		case 3:
			set.Suspend()
			left.Suspend()
		case 4:
			set.Resume()
			left.Resume()
		}
		for _, clock := range []int{api.Mono, api.Boot} {
			a, _ := set.Now(clock)
			b, _ := left.Now(clock)
			if a != b || set.Counter() != left.Counter() || set.ToMono(clock, 1<<61) != left.ToMono(clock, 1<<61) {
				t.Fatal(clock, a, b)
			}
		}
	}
}
