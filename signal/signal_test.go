package signal

import (
	"math"
	"math/big"
	"math/rand"
	"slices"
	"testing"

	"fusee/api"
)

const maxOver = 1<<31 - 1

// entry is a signal of the model: its overruns are of any size, and are cut off where they are told.
type entry struct {
	no, timer int
	over      *big.Int
}

// line is what a queue should be: its signals in order, and the numbers that are blocked.
type line struct {
	l       []entry
	blocked map[int]bool
}

// told is a signal as it is to be told.
func (o entry) told() Signal {
	s := Signal{No: o.no, Timer: o.timer, Over: maxOver}
	if o.over.Cmp(big.NewInt(maxOver)) < 0 {
		s.Over = int(o.over.Int64())
	}
	return s
}

// made is a new queue, with its line.
func made() (*line, *Queue) { return &line{blocked: map[int]bool{}}, New() }

// place is where a timer's signal of a number is, or -1.
func (m *line) place(no, timer int) int {
	for at, o := range m.l {
		if o.no == no && o.timer == timer {
			return at
		}
	}
	return -1
}

// send sends a signal to both.
func (m *line) send(t *testing.T, q *Queue, no, timer, over int) {
	t.Helper()
	want := api.OK
	at := m.place(no, timer)
	switch {
	case no < 1 || no > 63 || timer < -1 || over < 0:
		want = api.ErrInval
	case at >= 0 && timer == -1:
	case at >= 0:
		o := m.l[at].over
		o.Add(o, big.NewInt(int64(over)))
		o.Add(o, big.NewInt(1))
	case len(m.l) == 32:
		want = api.ErrAgain
	default:
		m.l = append(m.l, entry{no, timer, big.NewInt(int64(over))})
	}
	if e := q.Send(no, timer, over); e != want {
		t.Fatal("send", no, timer, over, e, want)
	}
	m.check(t, q)
}

// take takes one of both.
func (m *line) take(t *testing.T, q *Queue) {
	t.Helper()
	var want Signal
	is := false
	for at, o := range m.l {
		if !m.blocked[o.no] {
			want, is = o.told(), true
			m.l = append(append([]entry{}, m.l[:at]...), m.l[at+1:]...)
			break
		}
	}
	if s, ok := q.Take(); s != want || ok != is {
		t.Fatal("take", s, ok, want, is)
	}
	m.check(t, q)
}

// block blocks a number of both, or doesn't any more.
func (m *line) block(t *testing.T, q *Queue, no int, yes bool) {
	t.Helper()
	before := m.blocked[no]
	if no >= 1 && no <= 63 {
		m.blocked[no] = yes
	}
	if b := q.Block(no, yes); b != before {
		t.Fatal("block", no, yes, b, before)
	}
	m.check(t, q)
}

// drop lets a timer's signals of both go.
func (m *line) drop(t *testing.T, q *Queue, timer int) {
	t.Helper()
	var rest []entry
	for _, o := range m.l {
		if o.timer != timer {
			rest = append(rest, o)
		}
	}
	want := len(m.l) - len(rest)
	m.l = rest
	if n := q.Drop(timer); n != want {
		t.Fatal("drop", timer, n, want)
	}
	m.check(t, q)
}

// check holds a queue against the line, by all calls that change nothing.
func (m *line) check(t *testing.T, q *Queue) {
	t.Helper()
	var want []Signal
	ready := false
	for _, o := range m.l {
		want = append(want, o.told())
		ready = ready || !m.blocked[o.no]
	}
	if l := q.Waiting(); !slices.Equal(l, want) {
		t.Fatal("waiting", l, want)
	}
	if q.Ready() != ready {
		t.Fatal("ready", q.Ready(), want)
	}
}

// fill sends as many signals as may wait, of the numbers 1 to 32 and of the timers 0 to 31.
func (m *line) fill(t *testing.T, q *Queue) {
	t.Helper()
	for n := range 32 {
		m.send(t, q, n+1, n, n)
	}
}

// edges are numbers around those at which something changes.
func edges() []int {
	l := []int{0, math.MinInt, math.MinInt + 1, math.MaxInt, math.MaxInt - 1}
	for _, n := range []int{1, 2, 31, 32, 33, 62, 63, 64, 65, 127, 128, maxOver - 1, maxOver, maxOver + 1, 1 << 32, 1<<32 + 1, 1 << 62} {
		l = append(l, n, -n)
	}
	return l
}

// P16.1: the chapter's example.
func TestExample(t *testing.T) {
	q := New()
	if e, f := q.Send(14, 3, 0), q.Send(14, 3, 0); e != api.OK || f != api.OK {
		t.Fatal(e, f)
	}
	if l := q.Waiting(); !slices.Equal(l, []Signal{{No: 14, Timer: 3, Over: 1}}) {
		t.Error(l)
	}
	if s, ok := q.Take(); s != (Signal{No: 14, Timer: 3, Over: 1}) || !ok {
		t.Error(s, ok)
	}
	if s, ok := q.Take(); s != (Signal{}) || ok {
		t.Error(s, ok)
	}
}

// P16.1: a queue of no signals, whatever it is asked.
func TestEmpty(t *testing.T) {
	for _, n := range edges() {
		m, q := made()
		m.check(t, q)
		m.drop(t, q, n)
		m.take(t, q)
		m.block(t, q, n, false)
		m.block(t, q, n, true)
		m.take(t, q)
		m.drop(t, q, n)
	}
}

// P16.1: a nil queue, whatever it is asked, also where a number may not be.
func TestNil(t *testing.T) {
	var q *Queue
	for _, n := range edges() {
		for _, o := range edges() {
			if e := q.Send(n, o, 0); e != api.ErrArg {
				t.Error(n, o, e)
			}
			if e := q.Send(9, n, o); e != api.ErrArg {
				t.Error(n, o, e)
			}
		}
		if q.Block(n, true) || q.Block(n, false) || q.Drop(n) != 0 {
			t.Error(n)
		}
	}
	if s, ok := q.Take(); ok || s != (Signal{}) || q.Waiting() != nil || q.Ready() {
		t.Error(s, ok)
	}
}

// P16.1: a queue that New didn't make works as a new one.
func TestZeroQueue(t *testing.T) {
	m, q := &line{blocked: map[int]bool{}}, &Queue{}
	m.check(t, q)
	m.take(t, q)
	m.drop(t, q, 0)
	m.block(t, q, 5, true)
	m.send(t, q, 5, 1, 2)
	m.send(t, q, 6, -1, 0)
	m.take(t, q)
	m.take(t, q)
	m.block(t, q, 5, false)
	m.take(t, q)
}

// P16.1: which numbers, timers and overruns may be sent, each beside right ones and all beside each other; what may
// not be changes nothing.
func TestWrongSends(t *testing.T) {
	for _, a := range edges() {
		for _, b := range edges() {
			for _, c := range edges() {
				m, q := made()
				m.send(t, q, a, b, c)
			}
			m, q := made()
			m.send(t, q, 7, 4, 1)
			m.send(t, q, a, 4, b)
			m.send(t, q, 7, a, b)
			m.send(t, q, a, b, 1)
			m.take(t, q)
		}
	}
	q := New()
	for _, s := range []Signal{{0, 0, 0}, {64, 0, 0}, {-1, 0, 0}, {1, -2, 0}, {63, 0, -1}, {1, -1, -1}, {0, -2, -1}, {65, 5, 0}, {129, 5, 0}} {
		if e := q.Send(s.No, s.Timer, s.Over); e != api.ErrInval || q.Ready() {
			t.Error(s, e)
		}
	}
	for _, s := range []Signal{{1, -1, 0}, {63, -1, math.MaxInt}, {1, 0, 0}, {63, math.MaxInt, 1}} {
		if e := q.Send(s.No, s.Timer, s.Over); e != api.OK {
			t.Error(s, e)
		}
	}
}

// P16.1: nobody's signal of a number waits once, with the overruns that it came with at first, and doesn't stand in the
// way of a timer's; it may come again when it was taken, or let go.
func TestNobodys(t *testing.T) {
	m, q := made()
	for n := range 4 {
		m.send(t, q, 9, -1, 3*n+2)
		m.send(t, q, 10, -1, 0)
		m.send(t, q, 9, 0, n)
	}
	if l := q.Waiting(); !slices.Equal(l, []Signal{{9, -1, 2}, {10, -1, 0}, {9, 0, 9}}) {
		t.Error(l)
	}
	m.take(t, q)
	m.send(t, q, 9, -1, 1)
	m.drop(t, q, -1)
	m.send(t, q, 10, -1, 0)
	m.send(t, q, 9, -1, 0)
	m.block(t, q, 9, true)
	m.send(t, q, 9, -1, 0)
	for range 4 {
		m.take(t, q)
	}
	m.block(t, q, 9, false)
	for range 3 {
		m.take(t, q)
	}
}

// P16.1: a timer's signal that waits keeps its place and gets what it is sent with, and one; another timer's of the
// same number, and the same timer's of another number, wait for themselves.
func TestTimersSignals(t *testing.T) {
	m, q := made()
	m.send(t, q, 14, 3, 0)
	m.send(t, q, 14, 4, 5)
	m.send(t, q, 15, 3, 7)
	m.send(t, q, 14, 3, 2)
	m.send(t, q, 15, 3, 0)
	m.send(t, q, 14, 4, 10)
	if l := q.Waiting(); !slices.Equal(l, []Signal{{14, 3, 3}, {14, 4, 16}, {15, 3, 8}}) {
		t.Error(l)
	}
	m.take(t, q)
	m.send(t, q, 14, 3, 1)
	m.send(t, q, 14, 4, 0)
	if l := q.Waiting(); !slices.Equal(l, []Signal{{14, 4, 17}, {15, 3, 8}, {14, 3, 1}}) {
		t.Error(l)
	}
}

// P16.1: overruns are told as at most the most of them, however many they are, and whether at once or in parts.
func TestManyOverruns(t *testing.T) {
	for _, timer := range []int{-1, 0, 5, math.MaxInt} {
		for _, a := range edges() {
			for _, b := range edges() {
				m, q := made()
				m.send(t, q, 1, timer, a)
				m.send(t, q, 1, timer, b)
				m.send(t, q, 1, timer, 0)
				m.send(t, q, 1, timer, a)
				m.take(t, q)
				m.send(t, q, 1, timer, b)
			}
		}
	}
	q := New()
	q.Send(2, 0, maxOver-2)
	for _, want := range []int{maxOver - 2, maxOver - 1, maxOver, maxOver, maxOver} {
		if l := q.Waiting(); len(l) != 1 || l[0].Over != want {
			t.Error(l, want)
		}
		q.Send(2, 0, 0)
	}
}

// P16.1: as many as the limit wait and no more; those that wait are sent again all the same; what may not be is told
// ahead of a queue that is full.
func TestFull(t *testing.T) {
	m, q := made()
	m.fill(t, q)
	m.send(t, q, 33, -1, 0)
	m.send(t, q, 1, -1, 0)
	m.send(t, q, 1, 1, 0)
	m.send(t, q, 63, 40, 9)
	m.send(t, q, 64, 40, 9)
	m.send(t, q, 33, -2, 0)
	m.send(t, q, 33, 0, -1)
	for n := range 32 {
		m.send(t, q, n+1, n, 2)
	}
	m.block(t, q, 1, true)
	m.send(t, q, 1, 5, 0)
	m.take(t, q)
	m.send(t, q, 60, -1, 0)
	m.send(t, q, 60, -1, 0)
	m.send(t, q, 61, -1, 0)
	m.drop(t, q, 7)
	m.send(t, q, 61, -1, 0)
	m.send(t, q, 62, -1, 0)
	if len(q.Waiting()) != api.MaxQueue || api.MaxQueue != 32 {
		t.Error(q.Waiting())
	}
}

// P16.1: what is blocked waits and gathers overruns, the others are taken ahead of it, and its place is kept.
func TestBlocked(t *testing.T) {
	m, q := made()
	m.block(t, q, 5, true)
	for range 3 {
		m.send(t, q, 5, 1, 0)
		m.send(t, q, 6, 1, 0)
		m.send(t, q, 5, -1, 0)
		m.send(t, q, 7, -1, 0)
	}
	m.take(t, q)
	m.take(t, q)
	if q.Ready() {
		t.Error("ready")
	}
	m.take(t, q)
	m.send(t, q, 6, 1, 0)
	m.block(t, q, 5, false)
	if s, ok := q.Take(); s != (Signal{5, 1, 2}) || !ok {
		t.Error(s, ok)
	}
	if l := q.Waiting(); !slices.Equal(l, []Signal{{5, -1, 0}, {6, 1, 0}}) {
		t.Error(l)
	}
}

// P16.1: each number is blocked for itself, and told as it was before; numbers that are none block nothing.
func TestBlockEach(t *testing.T) {
	for no := 1; no <= 63; no++ {
		m, q := made()
		m.block(t, q, no, false)
		m.block(t, q, no, true)
		m.block(t, q, no, true)
		for other := 1; other <= 63; other++ {
			if other == no {
				m.send(t, q, other, -1, 0)
				continue
			}
			m.block(t, q, other, false)
			m.send(t, q, other, -1, 0)
			m.take(t, q)
		}
		m.take(t, q)
		m.block(t, q, no, false)
		m.block(t, q, no, false)
		m.take(t, q)
	}
	for _, no := range edges() {
		m, q := made()
		for n := 1; n <= 32; n++ {
			m.send(t, q, n, -1, 0)
		}
		m.block(t, q, no, true)
		m.block(t, q, no, true)
		for range 33 {
			m.take(t, q)
		}
		m.block(t, q, no, false)
		m.take(t, q)
	}
}

// P16.1: all numbers at once, blocked and not.
func TestBlockAll(t *testing.T) {
	for from := range 2 {
		m, q := made()
		for no := 1; no <= 63; no++ {
			m.block(t, q, no, true)
		}
		for no := 1 + from; no <= 63; no += 2 {
			m.send(t, q, no, 70-no, no)
			m.take(t, q)
		}
		for no := 63; no >= 1; no-- {
			m.block(t, q, no, no%3 == 0)
			m.take(t, q)
		}
	}
}

// P16.1: all signals of a timer go, of whatever numbers, blocked or not, and no other's; of -1 nobody's.
func TestDrop(t *testing.T) {
	for _, timer := range append(edges(), 3, 4, 5) {
		m, q := made()
		m.block(t, q, 2, true)
		for n := range 30 {
			m.send(t, q, n/5+1, n%5-1, n)
		}
		m.drop(t, q, timer)
		m.drop(t, q, timer)
		m.block(t, q, 2, false)
		for range 31 {
			m.take(t, q)
		}
	}
	q := New()
	q.Send(1, 8, 0)
	q.Send(2, 8, 0)
	q.Send(2, -1, 0)
	for _, c := range []struct{ timer, want int }{{7, 0}, {-2, 0}, {8, 2}, {8, 0}, {-1, 1}, {-1, 0}} {
		if n := q.Drop(c.timer); n != c.want {
			t.Error(c, n)
		}
	}
}

// P16.1: a dropped signal's overruns go with it, and blocking stays.
func TestDropForgets(t *testing.T) {
	m, q := made()
	m.block(t, q, 3, true)
	m.send(t, q, 3, 1, 50)
	m.send(t, q, 3, 1, 50)
	m.drop(t, q, 1)
	m.send(t, q, 3, 1, 4)
	m.take(t, q)
	m.block(t, q, 3, true)
	m.block(t, q, 3, false)
	m.take(t, q)
}

// P16.1: an answer shares nothing with the queue, nor one queue with another.
func TestShared(t *testing.T) {
	m, q := made()
	m.fill(t, q)
	a, b := q.Waiting(), q.Waiting()
	for at := range a {
		a[at] = Signal{}
	}
	_ = append(a[:3], Signal{1, 1, 1})
	if !slices.Equal(b, q.Waiting()) {
		t.Error(b)
	}
	m.check(t, q)
	_ = append(q.Waiting(), Signal{9, 9, 9})
	m.take(t, q)
	m.drop(t, q, 9)
	m.send(t, q, 40, -1, 0)
	if b[0] != (Signal{1, 0, 0}) || b[9] != (Signal{10, 9, 9}) || b[31] != (Signal{32, 31, 31}) {
		t.Error(b)
	}
	other := New()
	other.Block(2, true)
	if q.Block(2, false) || other.Ready() || len(other.Waiting()) != 0 {
		t.Error("shared")
	}
}

// P16.1: what was taken or let go is kept no more.
func TestKept(t *testing.T) {
	m, q := made()
	for n := range 3000 {
		m.send(t, q, n%63+1, n%40-1, n)
		m.send(t, q, n%63+1, n%40-1, n)
		switch n % 3 {
		case 0:
			m.take(t, q)
		case 1:
			m.drop(t, q, n%40-1)
		}
		if n%50 == 0 {
			m.fill(t, q)
			for len(m.l) > 0 {
				m.take(t, q)
			}
		}
	}
	if len(q.waiting) > 32 || cap(q.waiting) > 64 {
		t.Error(len(q.waiting), cap(q.waiting))
	}
}

// calls are what a few calls may be.
func calls() []func(t *testing.T, m *line, q *Queue) {
	return []func(t *testing.T, m *line, q *Queue){
		func(t *testing.T, m *line, q *Queue) { m.send(t, q, 1, 0, 0) },
		func(t *testing.T, m *line, q *Queue) { m.send(t, q, 1, -1, 1) },
		func(t *testing.T, m *line, q *Queue) { m.send(t, q, 2, 0, 3) },
		func(t *testing.T, m *line, q *Queue) { m.take(t, q) },
		func(t *testing.T, m *line, q *Queue) { m.block(t, q, 1, true) },
		func(t *testing.T, m *line, q *Queue) { m.block(t, q, 1, false) },
		func(t *testing.T, m *line, q *Queue) { m.drop(t, q, 0) },
		func(t *testing.T, m *line, q *Queue) { m.drop(t, q, -1) },
	}
}

// P16.1: all orders of six calls.
func TestAllOrders(t *testing.T) {
	l := calls()
	all := 1
	for range 6 {
		all *= len(l)
	}
	for n := range all {
		m, q := made()
		for rest := n; rest > 0; rest /= len(l) {
			l[rest%len(l)](t, m, q)
		}
	}
}

// P16.1: many calls by chance.
func TestByChance(t *testing.T) {
	r := rand.New(rand.NewSource(16))
	for range 200 {
		m, q := made()
		numbers, timers := 1+r.Intn(66), 1+r.Intn(8)
		for range 400 {
			no, timer := r.Intn(numbers), r.Intn(timers)-2
			switch r.Intn(8) {
			case 0, 1, 2, 3:
				m.send(t, q, no, timer, r.Intn(5)-1)
			case 4:
				m.send(t, q, no, timer, r.Intn(maxOver))
			case 5:
				m.take(t, q)
			case 6:
				m.block(t, q, no, r.Intn(2) == 0)
			case 7:
				if r.Intn(3) == 0 {
					m.drop(t, q, timer)
				}
			}
		}
	}
}
