package queue

import (
	"math"
	"math/rand"
	"slices"
	"testing"

	"fusee/api"
)

const never = api.MaxTime

// row is what a queue should have: its timers in order.
type row struct{ l []api.Timer }

// counts is the time that a number counts as.
func counts(n int) int {
	switch {
	case n > never:
		return never
	case n < -never:
		return -never
	}
	return n
}

// find is a timer's place in the row, or -1.
func (r *row) find(id int) int {
	return slices.IndexFunc(r.l, func(o api.Timer) bool { return o.ID == id })
}

// take takes a place's timer out of the row.
func (r *row) take(at int) api.Timer {
	o := r.l[at]
	r.l = slices.Delete(r.l, at, at+1)
	return o
}

// add adds a timer to both.
func (r *row) add(t *testing.T, q *Queue, o api.Timer) {
	t.Helper()
	want := api.OK
	switch {
	case o.Hard < o.Soft:
		want = api.ErrInval
	case r.find(o.ID) >= 0:
		want = api.ErrBusy
	case len(r.l) >= 64:
		want = api.ErrAgain
	default:
		at := 0
		for at < len(r.l) && counts(r.l[at].Soft) <= counts(o.Soft) {
			at++
		}
		r.l = slices.Insert(r.l, at, o)
	}
	if e := q.Add(o); e != want {
		t.Fatal("add", o, e, want)
	}
}

// drop drops a timer of both.
func (r *row) drop(t *testing.T, q *Queue, id int) {
	t.Helper()
	var want api.Timer
	at := r.find(id)
	if at >= 0 {
		want = r.take(at)
	}
	if got, ok := q.Drop(id); got != want || ok != (at >= 0) {
		t.Fatal("drop", id, got, ok, want)
	}
}

// due asks both for one that is due.
func (r *row) due(t *testing.T, q *Queue, now int) {
	t.Helper()
	var want api.Timer
	is := len(r.l) > 0 && counts(r.l[0].Soft) <= counts(now) && counts(r.l[0].Soft) != never
	if is {
		want = r.take(0)
	}
	if got, ok := q.Due(now); got != want || ok != is {
		t.Fatal("due", now, got, ok, want, is)
	}
}

// check holds a queue against the row, by all calls that change nothing.
func (r *row) check(t *testing.T, q *Queue) {
	t.Helper()
	if l := q.All(); !slices.Equal(l, r.l) || q.Len() != len(r.l) {
		t.Fatal("all", l, q.Len(), r.l)
	}
	var first api.Timer
	if len(r.l) > 0 {
		first = r.l[0]
	}
	if o, ok := q.First(); o != first || ok != (len(r.l) > 0) {
		t.Fatal("first", o, ok, first)
	}
	for _, o := range r.l {
		if !q.Has(o.ID) || q.Has(o.ID+1) != (r.find(o.ID+1) >= 0) {
			t.Fatal("has", o)
		}
	}
}

// checkNone asks whether a queue knows nothing of a timer.
func checkNone(t *testing.T, q *Queue, id int) {
	t.Helper()
	if o, ok := q.Drop(id); q.Has(id) || ok || o != (api.Timer{}) {
		t.Fatal("none", id, o, ok)
	}
}

// made is a new queue, with its row.
func made(t *testing.T) (*row, *Queue) {
	t.Helper()
	r, q := &row{}, New()
	r.check(t, q)
	return r, q
}

// full is a queue of as many timers as there may be, of the IDs 0, 10, 20 and so on.
func full(t *testing.T) (*row, *Queue) {
	t.Helper()
	r, q := made(t)
	for n := range 64 {
		r.add(t, q, api.Timer{ID: 10 * n, Soft: n * 37 % 16, Hard: 1000 + n})
		r.check(t, q)
	}
	if q.Len() != 64 {
		t.Fatal(q.Len())
	}
	return r, q
}

// edges are numbers around those at which something changes.
func edges() []int {
	l := []int{0, math.MinInt, math.MinInt + 1, math.MaxInt, math.MaxInt - 1}
	for _, n := range []int{1, 2, 1 << 60, never - 1, never, never + 1, never + 2} {
		l = append(l, n, -n)
	}
	return l
}

// P13.1: the chapter's example.
func TestExample(t *testing.T) {
	q := New()
	five, three := api.Timer{ID: 1, Soft: 5, Hard: 5}, api.Timer{ID: 2, Soft: 3, Hard: 3}
	if q.Add(five) != api.OK || q.Add(three) != api.OK {
		t.Fatal("add")
	}
	if o, ok := q.First(); o != three || !ok {
		t.Error(o, ok)
	}
	if l := q.All(); !slices.Equal(l, []api.Timer{three, five}) || q.Len() != 2 {
		t.Error(l, q.Len())
	}
}

// P13.1: a queue of no timers, whatever it is asked.
func TestEmpty(t *testing.T) {
	q := New()
	for _, n := range edges() {
		checkNone(t, q, n)
		if o, ok := q.Due(n); ok || o != (api.Timer{}) {
			t.Error(n, o, ok)
		}
	}
	if o, ok := q.First(); ok || o != (api.Timer{}) || len(q.All()) != 0 || q.Len() != 0 {
		t.Error(o, ok)
	}
}

// P13.1: a nil queue, whatever it is asked.
func TestNil(t *testing.T) {
	var q *Queue
	for _, n := range edges() {
		for _, hard := range edges() {
			if e := q.Add(api.Timer{ID: n, Soft: n, Hard: hard}); e != api.ErrArg {
				t.Error(n, hard, e)
			}
		}
		checkNone(t, q, n)
		if o, ok := q.Due(n); ok || o != (api.Timer{}) {
			t.Error(n, o, ok)
		}
	}
	if o, ok := q.First(); ok || o != (api.Timer{}) || q.All() != nil || q.Len() != 0 {
		t.Error(o, ok)
	}
}

// P13.1: a queue that New didn't make works as a new one.
func TestZeroQueue(t *testing.T) {
	r, q := &row{}, &Queue{}
	r.check(t, q)
	r.drop(t, q, 0)
	r.due(t, q, 0)
	r.add(t, q, api.Timer{Soft: 1})
	r.check(t, q)
	for n := range 70 {
		r.add(t, q, api.Timer{ID: n % 66, Soft: -n, Hard: 5})
		r.check(t, q)
	}
	r.drop(t, q, 3)
	r.due(t, q, 0)
	r.check(t, q)
}

// P13.1: of like Soft times the one that came first is first, whatever else the timers have; one that comes
// again is behind the others.
func TestLikeOnes(t *testing.T) {
	r, q := made(t)
	for n, id := range []int{7, -3, 100, 0, 5, math.MinInt, math.MaxInt} {
		r.add(t, q, api.Timer{ID: id, Clock: 2 - n%3, Soft: 4, Hard: 100 - n, Lazy: n%2 == 0})
		r.check(t, q)
	}
	for range 20 {
		for _, id := range []int{100, 7, math.MaxInt} {
			r.drop(t, q, id)
			r.check(t, q)
			r.add(t, q, api.Timer{ID: id, Soft: 4, Hard: 4})
			r.check(t, q)
		}
	}
	for len(r.l) > 0 {
		r.due(t, q, 4)
		r.check(t, q)
	}
}

// P13.1: Soft times are ordered as the times that they count as; timers come out as they were added.
func TestOrderAtEdges(t *testing.T) {
	l := edges()
	for from := range l {
		r, q := made(t)
		for n := range l {
			soft := l[(from+n*5)%len(l)]
			r.add(t, q, api.Timer{ID: n, Soft: soft, Hard: math.MaxInt})
			r.check(t, q)
		}
		for n := range l {
			r.drop(t, q, (n*7+from)%len(l))
			r.check(t, q)
		}
	}
	q := New()
	for n, soft := range []int{math.MaxInt, never, never + 1, never - 1, -never, math.MinInt, -never - 1, 1 - never} {
		if e := q.Add(api.Timer{ID: n, Soft: soft, Hard: math.MaxInt}); e != api.OK {
			t.Fatal(n, e)
		}
	}
	for at, want := range []int{4, 5, 6, 7, 3, 0, 1, 2} {
		if o := q.All()[at]; o.ID != want {
			t.Error(at, o, want)
		}
	}
}

// P13.1: Hard is held against Soft as they are, not as the times that they count as.
func TestHardBelowSoft(t *testing.T) {
	for _, soft := range edges() {
		for _, hard := range edges() {
			r, q := made(t)
			r.add(t, q, api.Timer{ID: 9, Soft: soft, Hard: hard})
			r.check(t, q)
		}
	}
	for _, o := range []api.Timer{{Soft: 1}, {Soft: never + 2, Hard: never + 1}, {Soft: -never - 1, Hard: math.MinInt}, {Soft: math.MaxInt, Hard: never}, {Hard: -1}} {
		if q := New(); q.Add(o) != api.ErrInval || q.Len() != 0 {
			t.Error(o)
		}
	}
}

// P13.1: what may not be added, the error that is named first, and that it changes nothing.
func TestWrongAdds(t *testing.T) {
	r, q := full(t)
	wrong := []struct {
		timer api.Timer
		want  api.Errno
	}{
		{api.Timer{ID: 1, Soft: 1}, api.ErrInval},
		{api.Timer{ID: 10, Soft: 1}, api.ErrInval},
		{api.Timer{ID: 10, Soft: 1, Hard: 1}, api.ErrBusy},
		{api.Timer{ID: 0, Soft: -1, Hard: 1}, api.ErrBusy},
		{api.Timer{ID: 630, Clock: 2, Lazy: true}, api.ErrBusy},
		{api.Timer{ID: 1, Soft: -1, Hard: 1}, api.ErrAgain},
		{api.Timer{ID: -10}, api.ErrAgain},
	}
	for _, w := range wrong {
		if e := q.Add(w.timer); e != w.want {
			t.Error(w.timer, e, w.want)
		}
		r.check(t, q)
	}
	r.drop(t, q, 10)
	r.add(t, q, api.Timer{ID: 20, Hard: 1})
	r.add(t, q, api.Timer{ID: 11, Hard: 1})
	r.add(t, q, api.Timer{ID: 10, Hard: 1})
	r.due(t, q, 0)
	r.add(t, q, api.Timer{ID: 10, Hard: 1})
	r.check(t, q)
}

// P13.1: a queue has room again for each timer that went, however many there were.
func TestRoomAgain(t *testing.T) {
	r, q := full(t)
	for n := range 5000 {
		if n%3 == 0 {
			r.due(t, q, 5000)
		} else {
			r.drop(t, q, r.l[n*29%len(r.l)].ID)
		}
		r.add(t, q, api.Timer{ID: 1000 + n, Soft: n % 40, Hard: 50})
		r.add(t, q, api.Timer{ID: 500, Soft: 1, Hard: 1})
	}
	r.check(t, q)
	if len(q.timers) != 64 || len(q.handles) != 64 {
		t.Error("what went is still kept", len(q.timers), len(q.handles))
	}
}

// P13.1: which timer is due when; one that isn't stays, and hides none that is behind it.
func TestDue(t *testing.T) {
	for _, soft := range edges() {
		for _, now := range edges() {
			r, q := made(t)
			r.add(t, q, api.Timer{ID: 1, Clock: 1, Soft: soft, Hard: math.MaxInt, Lazy: true})
			r.due(t, q, now)
			r.check(t, q)
			r.add(t, q, api.Timer{ID: 2, Soft: 0, Hard: 0})
			r.due(t, q, now)
			r.check(t, q)
		}
	}
	q := New()
	q.Add(api.Timer{ID: 1, Soft: 5, Hard: 9})
	q.Add(api.Timer{ID: 2, Soft: never, Hard: never})
	for _, c := range []struct {
		now, id int
		due     bool
	}{{4, 0, false}, {-5, 0, false}, {math.MinInt, 0, false}, {5, 1, true}, {5, 0, false}, {never - 1, 0, false}, {never, 0, false}, {math.MaxInt, 0, false}} {
		if o, ok := q.Due(c.now); o.ID != c.id || ok != c.due {
			t.Error(c, o, ok)
		}
	}
	if o, ok := q.First(); o.ID != 2 || !ok || q.Len() != 1 {
		t.Error(o, ok)
	}
}

// P13.1: Due takes one timer a call, the first; Hard makes none due.
func TestDueOneByOne(t *testing.T) {
	r, q := made(t)
	for n := range 60 {
		r.add(t, q, api.Timer{ID: n, Soft: n * 7 % 20, Hard: 20 + n%3})
	}
	for now := -1; now <= 21; now++ {
		for range 4 {
			r.due(t, q, now)
			r.check(t, q)
		}
	}
	if q.Len() != 0 {
		t.Error(q.Len())
	}
}

// P13.1: a timer that is dropped is told whole, and is there no more.
func TestDrop(t *testing.T) {
	q := New()
	o := api.Timer{ID: -8, Clock: 77, Soft: math.MinInt, Hard: math.MaxInt, Lazy: true}
	if e := q.Add(o); e != api.OK {
		t.Fatal(e)
	}
	checkNone(t, q, 8)
	checkNone(t, q, 0)
	if got, ok := q.Drop(-8); got != o || !ok {
		t.Error(got, ok)
	}
	checkNone(t, q, -8)
	if l := q.All(); len(l) != 0 || q.Len() != 0 {
		t.Error(l)
	}
	if e := q.Add(o); e != api.OK || !q.Has(-8) {
		t.Error(e)
	}
}

// P13.1: an answer shares nothing with the queue, nor one queue with another.
func TestShared(t *testing.T) {
	r, q := full(t)
	a, b := q.All(), q.All()
	for n := range a {
		a[n] = api.Timer{}
	}
	if !slices.Equal(b, r.l) {
		t.Error("two answers share something")
	}
	r.check(t, q)
	b = q.All()
	r.drop(t, q, 0)
	if len(b) != 64 || b[0].ID != 0 {
		t.Error("an answer changed", b)
	}
	if other := New(); other.Len() != 0 || other.Has(10) {
		t.Error("two queues share something")
	}
	r.check(t, q)
}

// step is one of some calls, by its number: for each of three IDs two that add it and one that drops it, and two
// that ask for one that is due.
func (r *row) step(t *testing.T, q *Queue, n int) {
	t.Helper()
	switch id := n / 3; {
	case n >= 9:
		r.due(t, q, n-9)
	case n%3 == 2:
		r.drop(t, q, id)
	default:
		r.add(t, q, api.Timer{ID: id, Soft: n % 3, Hard: 1})
	}
}

// P13.1: all orders of up to five calls.
func TestAllOrders(t *testing.T) {
	const kinds, calls = 11, 5
	all := 1
	for range calls {
		all *= kinds
	}
	for order := range all {
		r, q := &row{}, New()
		for rest, n := order, 0; n < calls; n++ {
			r.step(t, q, rest%kinds)
			rest /= kinds
		}
		r.check(t, q)
	}
}

// P13.1: many calls, one behind the other, also with more timers than there may be.
func TestManyCalls(t *testing.T) {
	g := rand.New(rand.NewSource(13))
	l := edges()
	for range 40 {
		r, q := made(t)
		most := 1 + g.Intn(40)
		for range 2000 {
			soft := g.Intn(most)
			if g.Intn(10) == 0 {
				soft = l[g.Intn(len(l))]
			}
			o := api.Timer{ID: g.Intn(90) - 10, Clock: g.Intn(5) - 1, Soft: soft, Hard: max(soft, 50) - g.Intn(20), Lazy: g.Intn(2) == 0}
			switch g.Intn(8) {
			case 0, 1:
				r.drop(t, q, o.ID)
			case 2:
				r.due(t, q, soft)
			default:
				r.add(t, q, o)
			}
			r.check(t, q)
		}
	}
}
