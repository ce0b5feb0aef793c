package wheel

import (
	"math"
	"math/rand"
	"slices"
	"testing"

	"fusee/api"
)

// waits is an item, and the tick at which it is due.
type waits struct{ id, due int }

// row is what a wheel should have: its items in the order in which they came.
type row struct {
	now int
	l   []waits
}

// find is an item's place in the row, or -1.
func (r *row) find(id int) int {
	return slices.IndexFunc(r.l, func(o waits) bool { return o.id == id })
}

// put puts an item into both.
func (r *row) put(t *testing.T, w *Wheel, id, ticks int) {
	t.Helper()
	want := api.OK
	switch {
	case ticks < 1 || ticks > 65535:
		want = api.ErrRange
	case r.find(id) >= 0:
		want = api.ErrBusy
	case len(r.l) >= 1024:
		want = api.ErrAgain
	default:
		r.l = append(r.l, waits{id, r.now + ticks})
	}
	if e := w.Put(id, ticks); e != want {
		t.Fatal("put", r.now, id, ticks, e, want)
	}
}

// drop drops an item of both.
func (r *row) drop(t *testing.T, w *Wheel, id int) {
	t.Helper()
	at := r.find(id)
	if at >= 0 {
		r.l = slices.Delete(r.l, at, at+1)
	}
	if got := w.Drop(id); got != (at >= 0) {
		t.Fatal("drop", r.now, id, got)
	}
}

// advance lets ticks go by in both.
func (r *row) advance(t *testing.T, w *Wheel, ticks int) {
	t.Helper()
	r.now += min(max(ticks, 0), 65535)
	var fired, rest []waits
	for _, o := range r.l {
		if o.due <= r.now {
			fired = append(fired, o)
		} else {
			rest = append(rest, o)
		}
	}
	slices.SortStableFunc(fired, func(a, b waits) int { return a.due - b.due })
	r.l = rest
	got := w.Advance(ticks)
	if !slices.EqualFunc(got, fired, func(id int, o waits) bool { return id == o.id }) {
		t.Fatal("advance", r.now, ticks, got, fired)
	}
}

// check holds a wheel against the row, by all calls that change nothing.
func (r *row) check(t *testing.T, w *Wheel) {
	t.Helper()
	if w.Len() != len(r.l) || w.Now() != r.now {
		t.Fatal(w.Len(), len(r.l), w.Now(), r.now)
	}
	next := math.MaxInt
	for _, o := range r.l {
		next = min(next, o.due-r.now)
		if got, ok := w.Left(o.id); !ok || got != o.due-r.now {
			t.Fatal("left", r.now, o, got, ok)
		}
	}
	if len(r.l) == 0 {
		next = 0
	}
	if got, ok := w.Next(); got != next || ok != (len(r.l) > 0) {
		t.Fatal("next", r.now, got, ok, next)
	}
}

// checkNone asks whether a wheel knows nothing of an item.
func checkNone(t *testing.T, w *Wheel, id int) {
	t.Helper()
	if n, ok := w.Left(id); ok || n != 0 {
		t.Fatal("left", id, n, ok)
	}
	if w.Drop(id) {
		t.Fatal("drop", id)
	}
}

// at is a new wheel at a tick.
func at(t *testing.T, now int) (*row, *Wheel) {
	t.Helper()
	r, w := &row{}, New()
	for r.now < now {
		r.advance(t, w, min(now-r.now, 65535))
	}
	r.check(t, w)
	return r, w
}

// ends are numbers of ticks at which slots, levels and the wheel itself end.
func ends() []int {
	var l []int
	for _, n := range []int{1, 2, 3, 16, 20, 32, 240, 256, 272, 300, 512, 3840, 4096, 4112, 4352, 5000, 8192, 32768, 61440, 65520, 65534} {
		l = append(l, n-1, n, n+1)
	}
	slices.Sort(l)
	return slices.DeleteFunc(slices.Compact(l), func(n int) bool { return n < 1 })
}

// starts are ticks at which a wheel may be: in its first round, at the round's end, and in later ones.
func starts() []int {
	return []int{0, 1, 5, 15, 16, 17, 255, 256, 4095, 4096, 4097, 12345, 61439, 61440, 65519, 65520, 65534, 65535, 65536, 65537, 69631, 69632, 131071, 131072, 200000}
}

// P10.1: the chapter's example.
func TestExample(t *testing.T) {
	w := New()
	if w.Put(1, 3) != api.OK || w.Put(2, 20) != api.OK {
		t.Fatal("put")
	}
	if l := w.Advance(2); len(l) != 0 {
		t.Error(l)
	}
	if l := w.Advance(1); !slices.Equal(l, []int{1}) {
		t.Error(l)
	}
	if n, ok := w.Left(2); n != 17 || !ok || w.Now() != 3 || w.Len() != 1 {
		t.Error(n, ok, w.Now(), w.Len())
	}
}

// P10.1: a new wheel.
func TestNew(t *testing.T) {
	w := New()
	(&row{}).check(t, w)
	for _, id := range []int{0, 1, -1, math.MinInt, math.MaxInt} {
		checkNone(t, w, id)
	}
	if l := w.Advance(100); len(l) != 0 || w.Now() != 100 {
		t.Error(l, w.Now())
	}
	if o := New(); o.Now() != 0 || o.Len() != 0 {
		t.Error("two wheels share something")
	}
}

// P10.1: a nil wheel, whatever it is asked.
func TestNil(t *testing.T) {
	var w *Wheel
	for _, n := range []int{0, 1, 3, -1, 65535, 65536, math.MinInt, math.MaxInt} {
		if e := w.Put(n, n); e != api.ErrArg {
			t.Error(n, e)
		}
		if e := w.Put(1, n); e != api.ErrArg {
			t.Error(n, e)
		}
		if l := w.Advance(n); len(l) != 0 {
			t.Error(n, l)
		}
		checkNone(t, w, n)
	}
	if n, ok := w.Next(); n != 0 || ok || w.Len() != 0 || w.Now() != 0 {
		t.Error(n, ok, w.Len(), w.Now())
	}
}

// P10.1: a wheel that New didn't make is one that has nothing.
func TestZeroWheel(t *testing.T) {
	r, w := &row{}, &Wheel{}
	r.check(t, w)
	checkNone(t, w, 0)
	r.advance(t, w, 7)
	r.put(t, w, 3, 20)
	r.put(t, w, 3, 21)
	r.check(t, w)
	r.advance(t, w, 20)
	r.check(t, w)
}

// P10.1: how many ticks an item may be away; wrong ones change nothing.
func TestRange(t *testing.T) {
	for _, now := range starts() {
		r, w := at(t, now)
		r.put(t, w, 1, 40)
		for i, ticks := range []int{0, -1, -65535, -65536, math.MinInt, 65536, 65537, 131072, 1<<32 + 5, math.MaxInt, math.MaxInt - 1} {
			r.put(t, w, 2+i, ticks)
			r.put(t, w, 1, ticks)
			r.check(t, w)
			checkNone(t, w, 2+i)
		}
		r.put(t, w, 100, 1)
		r.put(t, w, 101, 65535)
		r.check(t, w)
		r.advance(t, w, 65535)
		r.check(t, w)
	}
}

// P10.1: any number is an item; it is busy while it is there, and may come again when it went.
func TestBusy(t *testing.T) {
	r, w := at(t, 9)
	ids := []int{0, 1, -1, 2, math.MinInt, math.MaxInt, 65536, 1 << 32}
	for i, id := range ids {
		r.put(t, w, id, 1+i*500)
		r.put(t, w, id, 1+i*500)
		r.put(t, w, id, 9)
		r.check(t, w)
	}
	for _, id := range ids {
		r.put(t, w, id, 65535)
		r.put(t, w, id, 0)
	}
	r.check(t, w)
	for range 2 {
		for _, id := range ids {
			r.drop(t, w, id)
			checkNone(t, w, id)
			r.check(t, w)
			r.put(t, w, id, 77)
			r.check(t, w)
		}
		r.advance(t, w, 76)
		r.put(t, w, 0, 3)
		r.advance(t, w, 1)
		for _, id := range ids {
			checkNone(t, w, id)
			r.put(t, w, id, 4100)
		}
		r.check(t, w)
	}
}

// P10.1: 1024 items, and no more; which error is told first.
func TestFull(t *testing.T) {
	r, w := at(t, 65000)
	for i := range 1024 {
		r.put(t, w, i, 1+i*61)
	}
	r.check(t, w)
	r.put(t, w, 5000, 10)
	r.put(t, w, 7, 10)
	r.put(t, w, 7, 0)
	r.put(t, w, 5000, 65536)
	checkNone(t, w, 5000)
	r.check(t, w)
	r.drop(t, w, 600)
	r.put(t, w, 5000, 10)
	r.put(t, w, 600, 10)
	r.check(t, w)
	r.advance(t, w, 1)
	r.put(t, w, 600, 9)
	r.put(t, w, 601, 9)
	r.put(t, w, 9999, 9)
	r.check(t, w)
	r.advance(t, w, math.MaxInt)
	r.check(t, w)
	for i := range 1030 {
		r.put(t, w, -i, 5)
	}
	r.advance(t, w, 5)
	r.check(t, w)
}

// P10.1: below 0 no tick goes by, above 65535 as many as that.
func TestAdvance(t *testing.T) {
	for _, now := range starts() {
		for _, ticks := range []int{0, -1, math.MinInt, -65536, 65535, 65536, 65537, 1 << 32, math.MaxInt} {
			r, w := at(t, now)
			r.put(t, w, 5, 1)
			r.put(t, w, 6, 65535)
			r.put(t, w, 7, 65534)
			r.put(t, w, 8, 1)
			r.advance(t, w, ticks)
			r.check(t, w)
			r.put(t, w, 9, 65535)
			r.advance(t, w, 1)
			r.check(t, w)
		}
	}
}

// P10.1: each number of ticks, from each of some ticks on: an item fires when its tick comes, neither sooner nor later.
func TestEachDistance(t *testing.T) {
	for _, now := range []int{0, 1, 4097, 65535, 70000} {
		for first := 1; first <= 65535; first += 1024 {
			r, w := at(t, now)
			for i := range 1024 {
				if ticks := first + i*389%1024; ticks <= 65535 {
					r.put(t, w, ticks, ticks)
				}
			}
			r.check(t, w)
			r.advance(t, w, first-1)
			for range 40 {
				r.advance(t, w, 1)
				r.check(t, w)
			}
			r.advance(t, w, 500)
			r.check(t, w)
			r.advance(t, w, 65535)
			r.check(t, w)
		}
	}
}

// P10.1: one item: not there a tick ahead of its own, and there at it, in whatever steps the ticks go by.
func TestOneItem(t *testing.T) {
	for _, now := range starts() {
		for _, ticks := range ends() {
			r, w := at(t, now)
			r.put(t, w, 1, ticks)
			r.check(t, w)
			r.advance(t, w, ticks/3)
			r.check(t, w)
			r.advance(t, w, ticks-1-ticks/3)
			r.check(t, w)
			r.advance(t, w, 1)
			r.check(t, w)
		}
	}
}

// P10.1: items of one tick fire in the order in which they came, from however far away each of them did.
func TestOrder(t *testing.T) {
	far := ends()
	for _, now := range starts() {
		r, w := at(t, now)
		due := now + far[len(far)-1]
		for i := len(far) - 1; i >= 0; i-- {
			r.advance(t, w, due-far[i]-r.now)
			r.put(t, w, i*7%1000, far[i])
			r.put(t, w, -1-i, far[i])
			r.put(t, w, 10000+i, far[i]+1)
			if i%3 == 0 {
				r.drop(t, w, -1-i)
				r.put(t, w, -1-i, far[i])
			}
			r.check(t, w)
		}
		r.advance(t, w, 1)
		r.check(t, w)
		r.advance(t, w, 1)
		r.check(t, w)
		if w.Len() != 0 {
			t.Fatal(w.Len())
		}
	}
}

// P10.1: Next is the first one's, at whatever level it is, and round.
func TestNext(t *testing.T) {
	for _, now := range starts() {
		for _, far := range ends() {
			r, w := at(t, now)
			for i, ticks := range []int{65535, far, min(far+3, 65535), far, min(2*far, 65535)} {
				r.put(t, w, i, ticks)
				r.check(t, w)
			}
			r.drop(t, w, 1)
			r.check(t, w)
			r.drop(t, w, 3)
			r.check(t, w)
		}
	}
}

// P10.1: any items come, go and fire.
func TestAny(t *testing.T) {
	random := rand.New(rand.NewSource(10))
	for _, reach := range []int{3, 20, 40, 300, 5000, 65600} {
		for _, ids := range []int{3, 30, 300} {
			r, w := at(t, random.Intn(140000))
			for range 2500 {
				id := random.Intn(ids) - ids/3
				switch random.Intn(8) {
				case 0, 1, 2:
					r.put(t, w, id, random.Intn(reach))
				case 3: // one more of a tick that some item has
					if len(r.l) > 0 {
						r.put(t, w, id, r.l[random.Intn(len(r.l))].due-r.now)
					}
				case 4:
					r.drop(t, w, id)
				case 5:
					r.advance(t, w, random.Intn(4)-1)
				case 6:
					r.advance(t, w, random.Intn(40))
				case 7:
					r.advance(t, w, random.Intn(1+reach/20))
				}
				r.check(t, w)
				if r.find(id) < 0 {
					checkNone(t, w, id)
				}
			}
			r.advance(t, w, 65535)
			r.check(t, w)
		}
	}
}

// P10.1: items go down level by level, as the chapter's ways say.
func TestLevels(t *testing.T) {
	w := New()
	for i, ticks := range []int{3, 20, 300, 5000} {
		w.Put(i, ticks)
	}
	for _, c := range []struct{ now, id, level, slot int }{
		{0, 0, 0, 3}, {0, 1, 1, 1}, {0, 2, 2, 1}, {0, 3, 3, 1},
		{16, 1, 0, 4}, {256, 2, 1, 2}, {288, 2, 0, 12}, {4096, 3, 2, 3}, {4864, 3, 1, 8}, {4992, 3, 0, 8},
	} {
		w.Advance(c.now - w.Now())
		if !slices.Contains(w.slots[c.level][c.slot], c.id) {
			t.Error(c, w.slots)
		}
	}
}

// P10.1: what Advance answers is the caller's own.
func TestFiredAreNew(t *testing.T) {
	w := New()
	for i := range 40 {
		w.Put(i, 1+i/20)
	}
	l := w.Advance(1)
	for i := range l {
		l[i] = -5
	}
	_ = append(l[:0], make([]int, 20)...)
	for i := range 20 {
		w.Put(i, 1)
	}
	if next := w.Advance(1); len(next) != 40 || next[0] != 20 || next[20] != 0 {
		t.Error(next)
	}
}
