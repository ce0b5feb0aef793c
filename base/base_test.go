package base

import (
	"math"
	"math/rand"
	"slices"
	"testing"

	"fusee/api"
)

const never = api.MaxTime

// model is what a base should have: its timers, as they came.
type model struct{ l []api.Timer }

// counts is the time that a number counts as.
func counts(n int) int {
	switch {
	case n > never:
		return never
	case n < -never:
		return -never
	}
	return n
}

// is asks whether a timer that is at soft is due when its clock tells now.
func is(soft, now int) bool { return counts(soft) != never && counts(soft) <= counts(now) }

// row has the timers of a clock that are, or aren't, Lazy, in order.
func (m *model) row(clock int, lazy bool) []api.Timer {
	var l []api.Timer
	for _, o := range m.l {
		if o.Clock == clock && o.Lazy == lazy {
			l = append(l, o)
		}
	}
	slices.SortStableFunc(l, func(a, b api.Timer) int {
		switch {
		case counts(a.Soft) < counts(b.Soft):
			return -1
		case counts(a.Soft) > counts(b.Soft):
			return 1
		}
		return 0
	})
	return l
}

// all has all timers, in the order in which they are told.
func (m *model) all() []api.Timer {
	var l []api.Timer
	for clock := range 3 {
		l = append(l, m.row(clock, false)...)
		l = append(l, m.row(clock, true)...)
	}
	return l
}

// find is a timer's place in the model, or -1.
func (m *model) find(id int) int {
	return slices.IndexFunc(m.l, func(o api.Timer) bool { return o.ID == id })
}

// take takes a timer out of the model.
func (m *model) take(id int) api.Timer {
	at := m.find(id)
	o := m.l[at]
	m.l = slices.Delete(m.l, at, at+1)
	return o
}

// start starts a timer in both.
func (m *model) start(t *testing.T, b *Base, o api.Timer) {
	t.Helper()
	want := api.OK
	switch {
	case o.Clock < 0 || o.Clock > 2:
		want = api.ErrInval
	case m.find(o.ID) >= 0:
		want = api.ErrBusy
	case o.Hard < o.Soft:
		want = api.ErrInval
	case len(m.row(o.Clock, o.Lazy)) >= 64:
		want = api.ErrAgain
	default:
		m.l = append(m.l, o)
	}
	if e := b.Start(o); e != want {
		t.Fatal("start", o, e, want)
	}
}

// cancel cancels a timer of both.
func (m *model) cancel(t *testing.T, b *Base, id int) {
	t.Helper()
	var want api.Timer
	there := m.find(id) >= 0
	if there {
		want = m.take(id)
	}
	if got, ok := b.Cancel(id); got != want || ok != there {
		t.Fatal("cancel", id, got, ok, want)
	}
}

// next asks both when the first one comes.
func (m *model) next(t *testing.T, b *Base, offsets [api.Kinds]int) {
	t.Helper()
	for _, lazy := range []bool{false, true} {
		want := never
		for _, o := range m.l {
			if soft := counts(o.Soft); soft != never && (lazy || !o.Lazy) {
				want = min(want, counts(soft-counts(offsets[o.Clock])))
			}
		}
		if got := b.Next(offsets, lazy); got != want {
			t.Fatal("next", offsets, lazy, got, want)
		}
	}
}

// due asks both whether some timer is.
func (m *model) due(t *testing.T, b *Base, times [api.Kinds]int) {
	t.Helper()
	for _, lazy := range []bool{false, true} {
		want := slices.ContainsFunc(m.l, func(o api.Timer) bool { return o.Lazy == lazy && is(o.Soft, times[o.Clock]) })
		if got := b.Due(times, lazy); got != want {
			t.Fatal("due", times, lazy, got, want)
		}
	}
}

// expire takes all that are due out of both.
func (m *model) expire(t *testing.T, b *Base, times [api.Kinds]int, lazy bool) {
	t.Helper()
	var want []api.Timer
	for clock := range 3 {
		for _, o := range m.row(clock, lazy) {
			if is(o.Soft, times[clock]) {
				want = append(want, m.take(o.ID))
			}
		}
	}
	if got := b.Expire(times, lazy); !slices.Equal(got, want) {
		t.Fatal("expire", times, lazy, got, want)
	}
}

// check holds a base against the model, by calls that change nothing.
func (m *model) check(t *testing.T, b *Base) {
	t.Helper()
	if l := b.All(); !slices.Equal(l, m.all()) || b.Len() != len(m.l) {
		t.Fatal("all", l, b.Len(), m.all())
	}
	for _, o := range m.l {
		if !b.Has(o.ID) || b.Has(o.ID+1) != (m.find(o.ID+1) >= 0) {
			t.Fatal("has", o)
		}
	}
	m.next(t, b, [api.Kinds]int{0, 100, 7})
	m.due(t, b, [api.Kinds]int{10, 110, 17})
}

// checkNothing asks whether a base has no timer, whatever it is asked.
func checkNothing(t *testing.T, b *Base) {
	t.Helper()
	for _, n := range edges() {
		if o, ok := b.Cancel(n); ok || o != (api.Timer{}) || b.Has(n) {
			t.Error("cancel", n, o, ok)
		}
		for _, lazy := range []bool{false, true} {
			l := [api.Kinds]int{n, n, n}
			if got := b.Next(l, lazy); got != never {
				t.Error("next", n, got)
			}
			if b.Due(l, lazy) || len(b.Expire(l, lazy)) != 0 {
				t.Error("due", n)
			}
		}
	}
	if b.Len() != 0 || len(b.All()) != 0 {
		t.Error(b.Len(), b.All())
	}
}

// made is a new base, with its model.
func made(t *testing.T) (*model, *Base) {
	t.Helper()
	m, b := &model{}, New()
	m.check(t, b)
	return m, b
}

// each goes through the six queues: by clock, and those that aren't Lazy, and those that are.
func each(f func(clock int, lazy bool)) {
	for n := range 6 {
		f(n/2, n%2 == 1)
	}
}

// full is a base that has no room in any queue; the IDs are 0, 10, 20 and so on.
func full(t *testing.T) (*model, *Base) {
	t.Helper()
	m, b := made(t)
	id := 0
	each(func(clock int, lazy bool) {
		for n := range 64 {
			m.start(t, b, api.Timer{ID: id, Clock: clock, Soft: n * 37 % 16, Hard: 1000 + n, Lazy: lazy})
			id += 10
		}
	})
	m.check(t, b)
	if b.Len() != 384 {
		t.Fatal(b.Len())
	}
	return m, b
}

// edges are numbers around those at which something changes.
func edges() []int {
	l := []int{0, math.MinInt, math.MinInt + 1, math.MaxInt, math.MaxInt - 1}
	for _, n := range []int{1, 2, 1 << 60, never - 1, never, never + 1, never + 2} {
		l = append(l, n, -n)
	}
	return l
}

// P14.1: the chapter's example.
func TestExample(t *testing.T) {
	b := New()
	if e := b.Start(api.Timer{ID: 1, Clock: api.Real, Soft: 105, Hard: 105}); e != api.OK {
		t.Fatal(e)
	}
	if n := b.Next([api.Kinds]int{0, 100, 0}, false); n != 5 {
		t.Error(n)
	}
}

// P14.1: a base of no timers, whatever it is asked.
func TestEmpty(t *testing.T) { checkNothing(t, New()) }

// P14.1: a nil base, whatever it is asked.
func TestNil(t *testing.T) {
	var b *Base
	checkNothing(t, b)
	for _, n := range edges() {
		for _, hard := range edges() {
			for clock := -1; clock <= 3; clock++ {
				if e := b.Start(api.Timer{ID: n, Clock: clock, Soft: n, Hard: hard}); e != api.ErrArg {
					t.Error(n, hard, clock, e)
				}
			}
		}
	}
	checkNothing(t, b)
}

// P14.1: a base that New didn't make works as a new one.
func TestZeroBase(t *testing.T) {
	checkNothing(t, &Base{})
	each(func(clock int, lazy bool) {
		m, b := &model{}, &Base{}
		for n := range 66 {
			m.start(t, b, api.Timer{ID: n, Clock: clock, Soft: -n, Hard: 5, Lazy: lazy})
			m.check(t, b)
		}
		m.cancel(t, b, 3)
		m.expire(t, b, [api.Kinds]int{-5, -5, -5}, lazy)
		m.check(t, b)
	})
}

// P14.1: a timer of no such clock comes to nothing, whatever else it has.
func TestNoSuchClock(t *testing.T) {
	m, b := full(t)
	m.cancel(t, b, 100)
	for _, clock := range []int{-1, -2, 3, 4, 6, 1 << 32, 1<<32 + 1, math.MinInt, math.MinInt + 1, math.MaxInt} {
		for _, lazy := range []bool{false, true} {
			for _, o := range []api.Timer{{ID: 100}, {ID: 10}, {ID: 100, Soft: 1}, {ID: 10, Soft: 1}, {ID: 5}} {
				o.Clock, o.Lazy = clock, lazy
				if e := b.Start(o); e != api.ErrInval {
					t.Error(o, e)
				}
			}
		}
	}
	m.check(t, b)
	m.start(t, b, api.Timer{ID: 100, Clock: m.l[0].Clock, Hard: 1})
}

// P14.1: an ID that is in some queue is busy in each, also for a timer that may not be, and one for which there
// is no room; it isn't any more when its timer went.
func TestBusy(t *testing.T) {
	each(func(clock int, lazy bool) {
		m, b := made(t)
		m.start(t, b, api.Timer{ID: -4, Clock: clock, Soft: 3, Hard: 9, Lazy: lazy})
		each(func(other int, otherLazy bool) {
			for _, o := range []api.Timer{{Soft: 3, Hard: 9}, {Soft: 9, Hard: 9}, {Soft: 9, Hard: 8}} {
				o.ID, o.Clock, o.Lazy = -4, other, otherLazy
				if e := b.Start(o); e != api.ErrBusy {
					t.Error(o, e)
				}
				m.check(t, b)
			}
		})
		for n := range 6 {
			m.cancel(t, b, -4)
			m.start(t, b, api.Timer{ID: -4, Clock: n / 2, Soft: 3, Hard: 9, Lazy: n%2 == 1})
			m.check(t, b)
			m.expire(t, b, [api.Kinds]int{3, 3, 3}, n%2 == 1)
			m.start(t, b, api.Timer{ID: -4, Clock: (n + 3) % 6 / 2, Soft: 3, Hard: 9, Lazy: n%2 == 0})
			m.check(t, b)
		}
	})
	m, b := full(t)
	each(func(clock int, lazy bool) {
		for id := 0; id < 3840; id += 10 {
			m.start(t, b, api.Timer{ID: id, Clock: clock, Soft: id % 20, Hard: 5, Lazy: lazy})
		}
	})
	m.check(t, b)
}

// P14.1: Hard is held against Soft as they are, and also where no room is left.
func TestHardBelowSoft(t *testing.T) {
	all, crowded := full(t)
	each(func(clock int, lazy bool) {
		for _, soft := range edges() {
			for _, hard := range edges() {
				o := api.Timer{ID: 9, Clock: clock, Soft: soft, Hard: hard, Lazy: lazy}
				m, b := made(t)
				m.start(t, b, o)
				m.check(t, b)
				if hard < soft {
					if e := crowded.Start(o); e != api.ErrInval {
						t.Error(o, e)
					}
				}
			}
		}
	})
	all.check(t, crowded)
}

// P14.1: a queue is full by itself, and has room again when a timer went.
func TestFull(t *testing.T) {
	each(func(clock int, lazy bool) {
		m, b := made(t)
		for n := range 70 {
			m.start(t, b, api.Timer{ID: n, Clock: clock, Soft: n % 5, Hard: 9, Lazy: lazy})
		}
		m.check(t, b)
		if b.Len() != 64 {
			t.Fatal(b.Len())
		}
		id := 100
		each(func(other int, otherLazy bool) {
			m.start(t, b, api.Timer{ID: id, Clock: other, Lazy: otherLazy})
			m.check(t, b)
			id++
		})
		m.cancel(t, b, 7)
		m.start(t, b, api.Timer{ID: 8, Clock: clock, Lazy: lazy})
		m.start(t, b, api.Timer{ID: 200, Clock: clock, Lazy: lazy})
		m.start(t, b, api.Timer{ID: 201, Clock: clock, Lazy: lazy})
		m.check(t, b)
	})
	m, b := full(t)
	each(func(clock int, lazy bool) {
		m.start(t, b, api.Timer{ID: 5, Clock: clock, Lazy: lazy})
	})
	m.check(t, b)
}

// P14.1: a timer is told whole when it is cancelled, out of whichever queue, and is there no more; no other one is.
func TestCancel(t *testing.T) {
	each(func(clock int, lazy bool) {
		m, b := made(t)
		each(func(other int, otherLazy bool) {
			m.start(t, b, api.Timer{ID: 1 + len(m.l), Clock: other, Soft: 5, Hard: 6, Lazy: otherLazy})
		})
		o := api.Timer{ID: math.MinInt, Clock: clock, Soft: math.MinInt, Hard: math.MaxInt, Lazy: lazy}
		m.start(t, b, o)
		for _, id := range []int{0, -1, 7, math.MaxInt, math.MinInt + 1} {
			m.cancel(t, b, id)
		}
		m.check(t, b)
		if got, ok := b.Cancel(math.MinInt); got != o || !ok {
			t.Error(got, ok)
		}
		m.take(math.MinInt)
		m.cancel(t, b, math.MinInt)
		m.check(t, b)
		for _, id := range []int{6, 1, 3, 5, 2, 4, 4, 1} {
			m.cancel(t, b, id)
			m.check(t, b)
		}
	})
}

// P14.1: what Next tells of one timer, at the edges of times and offsets; other clocks' offsets count for nothing,
// Mono's own counts as it is.
func TestNextOfOne(t *testing.T) {
	each(func(clock int, lazy bool) {
		for _, soft := range append(edges(), 105) {
			m, b := made(t)
			m.start(t, b, api.Timer{ID: 1, Clock: clock, Soft: soft, Hard: math.MaxInt, Lazy: lazy})
			for _, n := range append(edges(), 100) {
				for _, other := range []int{0, math.MinInt, math.MaxInt} {
					offsets := [api.Kinds]int{other, other, other}
					offsets[clock] = n
					m.next(t, b, offsets)
				}
			}
			m.check(t, b)
		}
	})
}

// P14.1: Next tells the least of all clocks, and of Lazy ones if it is asked to.
func TestNextOfMany(t *testing.T) {
	m, b := made(t)
	each(func(clock int, lazy bool) {
		for n := range 3 {
			soft := 200 + 20*clock - n
			if lazy {
				soft -= 50
			}
			m.start(t, b, api.Timer{ID: len(m.l), Clock: clock, Soft: soft, Hard: 999, Lazy: lazy})
		}
	})
	for _, c := range []struct {
		offsets    [api.Kinds]int
		want, lazy int
	}{
		{[api.Kinds]int{0, 0, 0}, 198, 148},
		{[api.Kinds]int{0, 100, 0}, 118, 68},
		{[api.Kinds]int{0, 100, 150}, 88, 38},
		{[api.Kinds]int{0, -100, -150}, 198, 148},
		{[api.Kinds]int{-1000, -100, -150}, 318, 268},
		{[api.Kinds]int{300, 0, 0}, -102, -152},
		{[api.Kinds]int{-never, 0, -never}, 218, 168},
		{[api.Kinds]int{-never, -never, -never}, never, never},
	} {
		if prompt, all := b.Next(c.offsets, false), b.Next(c.offsets, true); prompt != c.want || all != c.lazy {
			t.Error(c, prompt, all)
		}
		m.check(t, b)
	}
	for len(m.l) > 0 {
		m.cancel(t, b, m.l[len(m.l)*7%len(m.l)].ID)
		m.check(t, b)
	}
}

// P14.1: a timer is due by its own clock alone, and as one that is Lazy, or as one that isn't; to ask changes nothing.
func TestDue(t *testing.T) {
	each(func(clock int, lazy bool) {
		for _, soft := range append(edges(), 105) {
			m, b := made(t)
			m.start(t, b, api.Timer{ID: 1, Clock: clock, Soft: soft, Hard: math.MaxInt, Lazy: lazy})
			for _, n := range append(edges(), 104, 105, 106) {
				for _, other := range []int{0, math.MinInt, math.MaxInt} {
					times := [api.Kinds]int{other, other, other}
					times[clock] = n
					m.due(t, b, times)
					if b.Due(times, lazy) != is(soft, n) || b.Due(times, !lazy) {
						t.Error(clock, lazy, soft, times)
					}
				}
			}
			m.check(t, b)
		}
	})
}

// P14.1: of several clocks one that has a timer that is due is enough, and others may have none, or later ones.
func TestDueOfMany(t *testing.T) {
	m, b := made(t)
	each(func(clock int, lazy bool) {
		m.start(t, b, api.Timer{ID: len(m.l), Clock: clock, Soft: 10, Hard: 10, Lazy: lazy})
		m.start(t, b, api.Timer{ID: len(m.l), Clock: clock, Soft: never, Hard: never, Lazy: lazy})
	})
	for range 3 {
		for n := range 27 {
			m.due(t, b, [api.Kinds]int{8 + n%3, 8 + n/3%3, 8 + n/9})
		}
		m.cancel(t, b, m.l[0].ID)
		m.cancel(t, b, m.l[len(m.l)-2].ID)
	}
}

// P14.1: what expires of one timer, at the edges of times.
func TestExpireOfOne(t *testing.T) {
	each(func(clock int, lazy bool) {
		for _, soft := range edges() {
			for _, n := range edges() {
				for _, other := range []int{0, math.MinInt, math.MaxInt} {
					m, b := made(t)
					times := [api.Kinds]int{other, other, other}
					times[clock] = n
					m.start(t, b, api.Timer{ID: 1, Clock: clock, Soft: soft, Hard: math.MaxInt, Lazy: lazy})
					m.expire(t, b, times, !lazy)
					m.expire(t, b, times, lazy)
					m.check(t, b)
				}
			}
		}
	})
}

// P14.1: what is due expires in the order of clocks, each in order, like ones as they came; the rest stays.
func TestExpireInOrder(t *testing.T) {
	_, b := made(t)
	for _, o := range []api.Timer{
		{ID: 1, Clock: 2, Soft: 1, Hard: 9}, {ID: 2, Clock: 1, Soft: 3, Hard: 9}, {ID: 3, Clock: 0, Soft: 5, Hard: 9},
		{ID: 4, Clock: 0, Soft: 4, Hard: 9}, {ID: 5, Clock: 0, Soft: 4, Hard: 4}, {ID: 6, Clock: 0, Soft: 6, Hard: 9},
		{ID: 7, Clock: 1, Soft: 2, Hard: 9}, {ID: 8, Clock: 2, Soft: never, Hard: never}, {ID: 9, Clock: 2, Soft: -1, Hard: 9},
		{ID: 10, Clock: 1, Soft: 0, Hard: 9, Lazy: true}, {ID: 11, Clock: 0, Soft: 5, Hard: 5, Lazy: true},
		{ID: 12, Clock: 0, Soft: 5, Hard: 5, Lazy: true}, {ID: 13, Clock: 2, Soft: 6, Hard: 6, Lazy: true},
	} {
		if e := b.Start(o); e != api.OK {
			t.Fatal(o, e)
		}
	}
	times := [api.Kinds]int{5, 5, 5}
	checkIDs(t, b.All(), 4, 5, 3, 6, 11, 12, 7, 2, 10, 9, 1, 8, 13)
	checkIDs(t, b.Expire(times, false), 4, 5, 3, 7, 2, 9, 1)
	checkIDs(t, b.All(), 6, 11, 12, 10, 8, 13)
	checkIDs(t, b.Expire(times, false))
	checkIDs(t, b.Expire(times, true), 11, 12, 10)
	checkIDs(t, b.Expire(times, true))
	checkIDs(t, b.All(), 6, 8, 13)
	checkIDs(t, b.Expire([api.Kinds]int{5, 9, never}, false))
	checkIDs(t, b.Expire([api.Kinds]int{6, 0, 0}, false), 6)
	checkIDs(t, b.All(), 8, 13)
}

// checkIDs asks whether timers have some IDs, in order.
func checkIDs(t *testing.T, l []api.Timer, ids ...int) {
	t.Helper()
	var got []int
	for _, o := range l {
		got = append(got, o.ID)
	}
	if !slices.Equal(got, ids) {
		t.Error(got, ids)
	}
}

// P14.1: as time goes by each timer expires once.
func TestExpireOverTime(t *testing.T) {
	m, b := full(t)
	for now := -1; now <= 17; now++ {
		times := [api.Kinds]int{now, now / 2, now - 3}
		m.expire(t, b, times, now%2 == 0)
		m.check(t, b)
	}
	for _, lazy := range []bool{true, false} {
		m.expire(t, b, [api.Kinds]int{16, 16, 16}, lazy)
	}
	m.check(t, b)
	if b.Len() != 0 {
		t.Error(b.Len())
	}
}

// P14.1: timers are told in the order of their Soft times as they count, at the edges of times.
func TestOrderAtEdges(t *testing.T) {
	l := edges()
	each(func(clock int, lazy bool) {
		m, b := made(t)
		for n := range l {
			m.start(t, b, api.Timer{ID: n, Clock: clock, Soft: l[n*5%len(l)], Hard: math.MaxInt, Lazy: lazy})
		}
		m.check(t, b)
		for _, now := range []int{math.MinInt, -2, 1, never - 1, math.MaxInt} {
			m.expire(t, b, [api.Kinds]int{now, now, now}, lazy)
			m.check(t, b)
		}
	})
}

// P14.1: an answer shares nothing with the base, nor one base with another.
func TestShared(t *testing.T) {
	m, b := full(t)
	first, second := b.All(), b.All()
	clear(first)
	if !slices.Equal(second, m.all()) {
		t.Error("two answers share something")
	}
	m.check(t, b)
	if other := New(); other.Len() != 0 || other.Has(10) {
		t.Error("two bases share something")
	}
	gone := b.Expire([api.Kinds]int{3, 3, 3}, false)
	want := slices.Clone(gone)
	for _, o := range gone {
		m.take(o.ID)
	}
	m.cancel(t, b, second[383].ID)
	m.start(t, b, api.Timer{ID: 1, Hard: 1})
	if !slices.Equal(gone, want) || len(gone) == 0 {
		t.Error("an answer changed", gone, want)
	}
	clear(gone)
	m.check(t, b)
}

// step is one of some calls, by its number: for each of two IDs five that start it and one that cancels it, and
// two that let timers expire.
func (m *model) step(t *testing.T, b *Base, n int) {
	t.Helper()
	o := api.Timer{ID: n / 6}
	switch {
	case n >= 12:
		m.expire(t, b, [api.Kinds]int{1, 0, 1}, n == 12)
		return
	case n%6 == 0:
		m.cancel(t, b, o.ID)
		return
	case n%6 == 1:
		o.Hard = -1
	case n%6 == 2:
		o.Soft, o.Hard = 1, 1
	case n%6 == 3:
		o.Clock, o.Lazy = 1, true
	case n%6 == 4:
		o.Lazy = true
	case n%6 == 5:
		o.Clock = 2
	}
	m.start(t, b, o)
}

// P14.1: all orders of up to four calls.
func TestAllOrders(t *testing.T) {
	const kinds, calls = 14, 4
	all := 1
	for range calls {
		all *= kinds
	}
	for order := range all {
		m, b := &model{}, New()
		for rest, n := order, 0; n < calls; n++ {
			m.step(t, b, rest%kinds)
			rest /= kinds
		}
		m.check(t, b)
	}
}

// P14.1: many calls, one behind the other, also with more timers than there may be.
func TestManyCalls(t *testing.T) {
	g := rand.New(rand.NewSource(14))
	l := edges()
	number := func(most int) int {
		if g.Intn(10) == 0 {
			return l[g.Intn(len(l))]
		}
		return g.Intn(most)
	}
	for round := range 12 {
		m, b := made(t)
		clocks := 1 + round%5
		for range 1500 {
			soft := number(40)
			o := api.Timer{ID: g.Intn(500) - 10, Clock: g.Intn(clocks), Soft: soft, Hard: max(soft, 50) - g.Intn(12), Lazy: g.Intn(2) == 0}
			times := [api.Kinds]int{number(40), number(40), number(40)}
			switch g.Intn(24) {
			case 0:
				m.cancel(t, b, o.ID)
			case 1:
				m.expire(t, b, [api.Kinds]int{times[0] / 9, times[1] / 9, times[2] / 9}, o.Lazy)
			case 2:
				m.next(t, b, times)
				m.due(t, b, times)
			default:
				m.start(t, b, o)
			}
			if g.Intn(20) == 0 {
				m.check(t, b)
			}
		}
		m.check(t, b)
	}
}
