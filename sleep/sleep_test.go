package sleep

import (
	"math"
	"math/big"
	"math/rand"
	"slices"
	"testing"

	"fusee/api"
)

const (
	never  = api.MaxTime
	second = 1000000000
)

// clocks are the times of the three clocks.
type clocks = [3]int

// dorm is what sleeps should be: which task sleeps.
type dorm map[int]Sleep

// counts is the time that a number counts as.
func counts(n *big.Int) int {
	most := big.NewInt(never)
	switch {
	case n.Cmp(most) > 0:
		return never
	case n.Cmp(new(big.Int).Neg(most)) < 0:
		return -never
	}
	return int(n.Int64())
}

// number is the time that a number counts as.
func number(n int) int { return counts(big.NewInt(int64(n))) }

// ofSpec is a right spec's time.
func ofSpec(s api.Spec) int {
	n := new(big.Int).Mul(big.NewInt(int64(s.Sec)), big.NewInt(second))
	return counts(n.Add(n, big.NewInt(int64(s.Nsec))))
}

// plus is a sum of times: that of never is never.
func plus(a, b int) int {
	if a == never {
		return never
	}
	return counts(new(big.Int).Add(big.NewInt(int64(a)), big.NewInt(int64(number(b)))))
}

// left is a spec of how long it is from now to a time.
func left(now, until int) api.Spec {
	n := never
	if until != never {
		n = counts(new(big.Int).Sub(big.NewInt(int64(until)), big.NewInt(int64(number(now)))))
	}
	n = max(n, 0)
	return api.Spec{Sec: n / second, Nsec: n % second}
}

// start lets a task of both sleep.
func (d dorm) start(t *testing.T, s *Sleeps, task, clock int, x api.Spec, absolute bool, times clocks) {
	t.Helper()
	var want Sleep
	err := api.OK
	_, sleeps := d[task]
	switch {
	case task < 0 || task > 31 || clock < 0 || clock > 2 || x.Sec < 0 || x.Nsec < 0 || x.Nsec > 999999999:
		err = api.ErrInval
	case sleeps:
		err = api.ErrBusy
	case absolute:
		want = Sleep{task, clock, ofSpec(x), false}
	case clock == api.Boot:
		want = Sleep{task, api.Boot, plus(ofSpec(x), times[api.Boot]), true}
	default:
		want = Sleep{task, api.Mono, plus(ofSpec(x), times[api.Mono]), true}
	}
	if err == api.OK {
		d[task] = want
	}
	if got, e := s.Start(task, clock, x, absolute, times); got != want || e != err {
		t.Fatal("start", task, clock, x, absolute, times, got, e, want, err)
	}
	d.check(t, s)
}

// stop interrupts a task's sleep of both.
func (d dorm) stop(t *testing.T, s *Sleeps, task int, times clocks) {
	t.Helper()
	var want api.Spec
	err := api.ErrNone
	if x, ok := d[task]; ok {
		err = api.ErrIntr
		if x.Relative {
			want = left(times[x.Clock], x.Until)
		}
		delete(d, task)
	}
	if got, e := s.Stop(task, times); got != want || e != err {
		t.Fatal("stop", task, times, got, e, want, err)
	}
	d.check(t, s)
}

// wake ends a task's sleep of both, if it is time.
func (d dorm) wake(t *testing.T, s *Sleeps, task int, times clocks) {
	t.Helper()
	err := api.ErrNone
	if x, ok := d[task]; ok {
		if x.Until == never || number(times[x.Clock]) < x.Until {
			err = api.ErrState
		} else {
			err = api.OK
			delete(d, task)
		}
	}
	if e := s.Wake(task, times); e != err {
		t.Fatal("wake", task, times, e, err)
	}
	d.check(t, s)
}

// check holds sleeps against the dorm, by the calls that change nothing.
func (d dorm) check(t *testing.T, s *Sleeps) {
	t.Helper()
	var want []Sleep
	for task := -2; task < 40; task++ {
		x, sleeps := d[task]
		if sleeps {
			want = append(want, x)
		}
		if got, ok := s.Of(task); got != x || ok != sleeps {
			t.Fatal("of", task, got, ok, x, sleeps)
		}
	}
	if l := s.All(); !slices.Equal(l, want) {
		t.Fatal("all", l, want)
	}
}

// edges are numbers around those at which something changes.
func edges() []int {
	l := []int{0, math.MinInt, math.MinInt + 1, math.MaxInt, math.MaxInt - 1}
	for _, n := range []int{1, 2, 3, 31, 32, 33, second - 1, second, 1 << 60, never - 1, never, never + 1, never + 2} {
		l = append(l, n, -n)
	}
	return l
}

// specs are right ones at the edges of times.
func specs() []api.Spec {
	return []api.Spec{{}, {Nsec: 1}, {Nsec: 5}, {Nsec: second - 1}, {Sec: 1}, {Sec: 3, Nsec: 7}, {Sec: never / second}, {Sec: never / second, Nsec: never%second - 1}, {Sec: never / second, Nsec: never % second}, {Sec: never / second, Nsec: never%second + 1}, {Sec: never}, {Sec: math.MaxInt, Nsec: second - 1}}
}

// P17.1: the chapter's example.
func TestExample(t *testing.T) {
	s := New()
	if x, e := s.Start(4, api.Mono, api.Spec{Nsec: 5}, false, clocks{10, 0, 0}); x != (Sleep{Task: 4, Until: 15, Relative: true}) || e != api.OK {
		t.Error(x, e)
	}
	if left, e := s.Stop(4, clocks{12, 0, 0}); left != (api.Spec{Nsec: 3}) || e != api.ErrIntr {
		t.Error(left, e)
	}
	if x, ok := s.Of(4); x != (Sleep{}) || ok {
		t.Error(x, ok)
	}
}

// P17.1: of nobody who sleeps, whatever is asked.
func TestEmpty(t *testing.T) {
	d, s := dorm{}, New()
	d.check(t, s)
	for _, task := range edges() {
		for _, now := range edges() {
			d.stop(t, s, task, clocks{now, now, now})
			d.wake(t, s, task, clocks{now, now, now})
		}
		if x, ok := s.Of(task); ok || x != (Sleep{}) {
			t.Error(task, x, ok)
		}
	}
}

// P17.1: nil sleeps, whatever they are asked, also where a number may not be.
func TestNil(t *testing.T) {
	var s *Sleeps
	for _, n := range edges() {
		for _, o := range edges() {
			times := clocks{o, n, o}
			for _, x := range []api.Spec{{}, {Sec: n, Nsec: o}} {
				if got, e := s.Start(n, o, x, n > 0, times); got != (Sleep{}) || e != api.ErrArg {
					t.Error(n, o, got, e)
				}
			}
			if got, e := s.Stop(n, times); got != (api.Spec{}) || e != api.ErrArg {
				t.Error(n, o, got, e)
			}
			if e := s.Wake(n, times); e != api.ErrArg {
				t.Error(n, o, e)
			}
		}
		if x, ok := s.Of(n); x != (Sleep{}) || ok {
			t.Error(n, x, ok)
		}
	}
	if l := s.All(); l != nil {
		t.Error(l)
	}
}

// P17.1: sleeps that New didn't make work as new ones.
func TestZeroSleeps(t *testing.T) {
	d, s := dorm{}, &Sleeps{}
	d.check(t, s)
	d.stop(t, s, 0, clocks{})
	d.wake(t, s, 31, clocks{})
	d.start(t, s, 31, api.Boot, api.Spec{Sec: 1}, false, clocks{3, 2, 1})
	d.start(t, s, 31, api.Boot, api.Spec{Sec: 1}, false, clocks{})
	d.wake(t, s, 31, clocks{2 * second, 2 * second, 0})
	d.wake(t, s, 31, clocks{0, 0, 2 * second})
}

// P17.1: a sleep whose values are all zero is one.
func TestZeroSleep(t *testing.T) {
	d, s := dorm{}, New()
	d.start(t, s, 0, api.Mono, api.Spec{}, true, clocks{5, 5, 5})
	if x, ok := s.Of(0); x != (Sleep{}) || !ok || len(s.All()) != 1 {
		t.Error(x, ok)
	}
	d.start(t, s, 0, api.Mono, api.Spec{}, true, clocks{})
	d.wake(t, s, 0, clocks{-1, 9, 9})
	d.wake(t, s, 0, clocks{0, -9, -9})
	d.wake(t, s, 0, clocks{})
	d.start(t, s, 0, api.Mono, api.Spec{}, true, clocks{})
	d.stop(t, s, 0, clocks{-5, 0, 0})
}

// P17.1: which tasks, clocks and specs may be; what may not be changes nothing, and is told ahead of a task that
// sleeps.
func TestWrongStarts(t *testing.T) {
	for _, n := range append(edges(), 4, 5) {
		d, s := dorm{}, New()
		d.start(t, s, 3, api.Boot, api.Spec{Nsec: 1}, false, clocks{1, 2, 3})
		for _, absolute := range []bool{true, false} {
			d.start(t, s, n, api.Real, api.Spec{}, absolute, clocks{9, 8, 7})
			d.start(t, s, 5, n, api.Spec{}, absolute, clocks{9, 8, 7})
			d.start(t, s, 6, api.Mono, api.Spec{Sec: n}, absolute, clocks{9, 8, 7})
			d.start(t, s, 7, api.Mono, api.Spec{Nsec: n}, absolute, clocks{9, 8, 7})
			d.start(t, s, 7, api.Mono, api.Spec{Sec: n, Nsec: n}, absolute, clocks{9, 8, 7})
			d.start(t, s, 3, n, api.Spec{}, absolute, clocks{9, 8, 7})
			d.start(t, s, 3, api.Mono, api.Spec{Sec: n}, absolute, clocks{9, 8, 7})
			d.start(t, s, 3, api.Mono, api.Spec{Nsec: n}, absolute, clocks{9, 8, 7})
		}
	}
	s := New()
	s.Start(1, 0, api.Spec{}, false, clocks{})
	for _, c := range []struct {
		task, clock int
		spec        api.Spec
		want        api.Errno
	}{
		{-1, 0, api.Spec{}, api.ErrInval},
		{32, 0, api.Spec{}, api.ErrInval},
		{1, -1, api.Spec{}, api.ErrInval},
		{1, 3, api.Spec{}, api.ErrInval},
		{1, 0, api.Spec{Sec: -1}, api.ErrInval},
		{1, 0, api.Spec{Nsec: -1}, api.ErrInval},
		{1, 0, api.Spec{Nsec: second}, api.ErrInval},
		{1, 0, api.Spec{}, api.ErrBusy},
		{1, 2, api.Spec{Sec: math.MaxInt, Nsec: second - 1}, api.ErrBusy},
		{31, 2, api.Spec{Sec: math.MaxInt, Nsec: second - 1}, api.OK},
		{0, 1, api.Spec{}, api.OK},
	} {
		if x, e := s.Start(c.task, c.clock, c.spec, true, clocks{}); e != c.want || e != api.OK && x != (Sleep{}) {
			t.Error(c, x, e)
		}
	}
}

// P17.1: which clock a sleep is on, and till when, at each clock.
func TestClocks(t *testing.T) {
	times := clocks{10, 200, 3000}
	for _, c := range []struct {
		clock    int
		absolute bool
		want     Sleep
	}{
		{api.Mono, false, Sleep{7, api.Mono, 17, true}},
		{api.Real, false, Sleep{7, api.Mono, 17, true}},
		{api.Boot, false, Sleep{7, api.Boot, 3007, true}},
		{api.Mono, true, Sleep{7, api.Mono, 7, false}},
		{api.Real, true, Sleep{7, api.Real, 7, false}},
		{api.Boot, true, Sleep{7, api.Boot, 7, false}},
	} {
		s := New()
		if x, e := s.Start(7, c.clock, api.Spec{Nsec: 7}, c.absolute, times); x != c.want || e != api.OK {
			t.Error(c, x, e)
		}
		if x, ok := s.Of(7); x != c.want || !ok || !slices.Equal(s.All(), []Sleep{c.want}) {
			t.Error(c, x, ok)
		}
		for clock := range api.Kinds {
			times := clocks{-1, -1, -1}
			times[clock] = 5000
			if e := s.Wake(7, times); (e == api.OK) != (clock == c.want.Clock) {
				t.Error(c, clock, e)
			}
		}
	}
}

// P17.1: each way of sleeping, from each time and to each time, at the edges of times: when it wakes, and what is left.
func TestAtEdges(t *testing.T) {
	for _, x := range specs() {
		for _, from := range edges() {
			for _, to := range edges() {
				for clock := range 3 {
					for _, absolute := range []bool{true, false} {
						d, s := dorm{}, New()
						start, end := clocks{from, 77, from}, clocks{to, 99, to}
						if absolute {
							start, end = clocks{1, 2, 3}, clocks{to, to, to}
						}
						d.start(t, s, 9, clock, x, absolute, start)
						d.wake(t, s, 9, end)
						d.stop(t, s, 9, end)
						d.start(t, s, 9, clock, x, absolute, end)
						d.stop(t, s, 9, start)
					}
				}
			}
		}
	}
}

// P17.1: a sleep wakes when its clock tells its time, and not one sooner; what never comes doesn't wake.
func TestWake(t *testing.T) {
	s := New()
	s.Start(0, api.Mono, api.Spec{Nsec: 5}, false, clocks{10, 0, 0})
	for _, c := range []struct {
		mono int
		want api.Errno
	}{{math.MinInt, api.ErrState}, {14, api.ErrState}, {15, api.OK}, {15, api.ErrNone}} {
		if e := s.Wake(0, clocks{c.mono, 50, 50}); e != c.want {
			t.Error(c, e)
		}
	}
	for _, x := range []api.Spec{{Sec: never}, {Sec: never / second, Nsec: never % second}} {
		s.Start(1, api.Mono, x, true, clocks{})
		s.Start(2, api.Boot, x, false, clocks{-never, -never, math.MinInt})
		for _, now := range edges() {
			if e, f := s.Wake(1, clocks{now, now, now}), s.Wake(2, clocks{now, now, now}); e != api.ErrState || f != api.ErrState {
				t.Error(x, now, e, f)
			}
		}
		if l, e := s.Stop(1, clocks{}); l != (api.Spec{}) || e != api.ErrIntr {
			t.Error(l, e)
		}
		if l, e := s.Stop(2, clocks{5, 5, math.MaxInt}); l != (api.Spec{Sec: 4611686018, Nsec: 427387903}) || e != api.ErrIntr {
			t.Error(l, e)
		}
	}
}

// P17.1: what is left of a relative sleep, also when its time is past, and nothing of an absolute one.
func TestStop(t *testing.T) {
	for _, c := range []struct {
		clock    int
		absolute bool
		now      clocks
		want     api.Spec
	}{
		{api.Mono, false, clocks{10, 0, 0}, api.Spec{Sec: 2, Nsec: 3}},
		{api.Mono, false, clocks{11, 0, 0}, api.Spec{Sec: 2, Nsec: 2}},
		{api.Mono, false, clocks{13 + 2*second, 0, 0}, api.Spec{}},
		{api.Mono, false, clocks{14 + 2*second, 0, 0}, api.Spec{}},
		{api.Mono, false, clocks{9, 0, 0}, api.Spec{Sec: 2, Nsec: 4}},
		{api.Real, false, clocks{12 + second, 0, 0}, api.Spec{Sec: 1, Nsec: 1}},
		{api.Boot, false, clocks{0, 0, 12 + second}, api.Spec{Sec: 1, Nsec: 1}},
		{api.Mono, true, clocks{1, 1, 1}, api.Spec{}},
		{api.Real, true, clocks{1, 1, 1}, api.Spec{}},
		{api.Boot, true, clocks{1, 1, 1}, api.Spec{}},
	} {
		s := New()
		s.Start(30, c.clock, api.Spec{Sec: 2, Nsec: 3}, c.absolute, clocks{10, 10, 10})
		if left, e := s.Stop(30, c.now); left != c.want || e != api.ErrIntr {
			t.Error(c, left, e)
		}
		if left, e := s.Stop(30, c.now); left != (api.Spec{}) || e != api.ErrNone || len(s.All()) != 0 {
			t.Error(c, left, e)
		}
	}
}

// P17.1: all tasks sleep at once, are told by tasks, in whatever order they began, and go one by one.
func TestAllTasks(t *testing.T) {
	for _, step := range []int{1, 5, 31} {
		d, s := dorm{}, New()
		for n := range 32 {
			task := n * step % 32
			d.start(t, s, task, n%3, api.Spec{Nsec: 100 - n}, n%2 == 0, clocks{n, 2 * n, 3 * n})
			d.start(t, s, task, n%3, api.Spec{Nsec: 1}, n%2 == 0, clocks{})
		}
		if len(s.All()) != api.MaxTasks || api.MaxTasks != 32 {
			t.Error(len(s.All()))
		}
		for n := range 32 {
			task := n * 7 % 32
			d.wake(t, s, task, clocks{})
			if n%2 == 0 {
				d.stop(t, s, task, clocks{n, n, n})
			} else {
				d.wake(t, s, task, clocks{1000, 1000, 1000})
			}
			d.stop(t, s, task, clocks{})
			d.wake(t, s, task, clocks{1000, 1000, 1000})
			if n%4 == 0 {
				d.start(t, s, task, 0, api.Spec{}, false, clocks{})
			}
		}
	}
}

// P17.2: whatever Real is set to, before and behind it, a relative sleep is till the same time, wakes no sooner, and as
// much of it is left.
func TestRealIsSet(t *testing.T) {
	for clock := range api.Kinds {
		for _, from := range edges() {
			for _, to := range edges() {
				s := New()
				x, e := s.Start(2, clock, api.Spec{Nsec: 50}, false, clocks{100, from, 100})
				if x.Until != 150 || x.Clock == api.Real || !x.Relative || e != api.OK {
					t.Fatal(clock, from, x, e)
				}
				if e := s.Wake(2, clocks{149, to, 149}); e != api.ErrState {
					t.Fatal(clock, from, to, e)
				}
				if left, e := s.Stop(2, clocks{120, to, 120}); left != (api.Spec{Nsec: 30}) || e != api.ErrIntr {
					t.Fatal(clock, from, to, left, e)
				}
				s.Start(2, clock, api.Spec{Nsec: 50}, false, clocks{100, from, 100})
				if e := s.Wake(2, clocks{150, to, 150}); e != api.OK {
					t.Fatal(clock, from, to, e)
				}
			}
		}
	}
}

// P17.1: an answer shares nothing with the sleeps, nor some sleeps with others.
func TestShared(t *testing.T) {
	d, s := dorm{}, New()
	for task := range 5 {
		d.start(t, s, task, task%3, api.Spec{Sec: task}, false, clocks{1, 2, 3})
	}
	a, b := s.All(), s.All()
	clear(a)
	_ = append(a[:2], Sleep{Task: 30})
	d.check(t, s)
	d.stop(t, s, 2, clocks{})
	d.start(t, s, 2, 0, api.Spec{}, true, clocks{})
	if b[2] != (Sleep{2, api.Boot, 2*second + 3, true}) || len(New().All()) != 0 {
		t.Error(b)
	}
}

// P17.1: all orders of five calls.
func TestAllOrders(t *testing.T) {
	calls := []func(d dorm, s *Sleeps){
		func(d dorm, s *Sleeps) { d.start(t, s, 0, 0, api.Spec{Nsec: 5}, false, clocks{10, 20, 30}) },
		func(d dorm, s *Sleeps) { d.start(t, s, 0, 1, api.Spec{Nsec: 5}, true, clocks{10, 20, 30}) },
		func(d dorm, s *Sleeps) { d.start(t, s, 31, 2, api.Spec{Nsec: 9}, false, clocks{10, 20, 30}) },
		func(d dorm, s *Sleeps) { d.wake(t, s, 0, clocks{14, 5, 39}) },
		func(d dorm, s *Sleeps) { d.wake(t, s, 31, clocks{15, 4, 39}) },
		func(d dorm, s *Sleeps) { d.wake(t, s, 0, clocks{15, 4, 38}) },
		func(d dorm, s *Sleeps) { d.stop(t, s, 0, clocks{12, 24, 36}) },
		func(d dorm, s *Sleeps) { d.stop(t, s, 31, clocks{12, 24, 36}) },
	}
	all := 1
	for range 5 {
		all *= len(calls)
	}
	for n := range all {
		d, s := dorm{}, New()
		for rest := n; rest > 0; rest /= len(calls) {
			calls[rest%len(calls)](d, s)
		}
	}
}

// P17.1 and P17.2: many calls by chance, while time goes by and Real is set.
func TestByChance(t *testing.T) {
	r := rand.New(rand.NewSource(17))
	for range 100 {
		d, s := dorm{}, New()
		var times clocks
		tasks := 1 + r.Intn(34)
		for range 300 {
			task := r.Intn(tasks)
			switch r.Intn(6) {
			case 0, 1:
				x := api.Spec{Sec: r.Intn(3), Nsec: r.Intn(second)}
				if r.Intn(8) == 0 {
					x = specs()[r.Intn(len(specs()))]
				}
				d.start(t, s, task, r.Intn(4), x, r.Intn(2) == 0, times)
			case 2:
				d.stop(t, s, task, times)
			case 3:
				for task := range tasks {
					d.wake(t, s, task, times)
				}
			case 4:
				by := r.Intn(second)
				times[0], times[1], times[2] = times[0]+by, times[1]+by, times[2]+by+r.Intn(5)
			case 5:
				times[1] = r.Intn(10 * second)
			}
		}
	}
}
