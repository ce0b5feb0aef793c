package device

import (
	"math"
	"math/big"
	"math/rand"
	"testing"

	"fusee/api"
)

const never = api.MaxTime

// row is a device by what it tells; its times are numbers of any size.
type row struct {
	least, greatest int
	off             bool
	at              *big.Int // nil: it isn't armed
	latched         bool
}

// call is one that changes a device.
type call struct {
	kind   byte // 'p' Program, 's' Sooner, 'w' Pass, 't' Take, 'x' Stop, '-' Off, '+' On
	now, t int
}

// exact is the time that a number counts as.
func exact(t int) *big.Int { return big.NewInt(int64(min(max(t, -never), never))) }

// behind is a time some distance later; none is later than never.
func behind(now, distance int) *big.Int {
	sum := exact(now)
	sum.Add(sum, big.NewInt(int64(distance)))
	if most := big.NewInt(never); sum.Cmp(most) > 0 {
		return most
	}
	return sum
}

// aim is when a device that is on would be armed; nil: it wouldn't.
func (r *row) aim(now, t int) *big.Int {
	if t >= never {
		return nil
	}
	at := exact(t)
	if low := behind(now, r.least); at.Cmp(low) < 0 {
		at = low
	}
	if high := behind(now, r.greatest); at.Cmp(high) > 0 {
		at = high
	}
	return at
}

// do is a call of the row: what is told.
func (r *row) do(c call) (int, bool) {
	told, was := 0, false
	switch c.kind {
	case 'p':
		if !r.off {
			r.at = r.aim(c.now, c.t)
			told, was = r.armed()
		}
	case 's':
		at := r.aim(c.now, c.t)
		if !r.off && at != nil && (r.at == nil || at.Cmp(r.at) < 0) {
			r.at, was = at, true
		}
	case 'w':
		if r.at != nil && r.at.Cmp(exact(c.now)) <= 0 {
			r.at, r.latched, was = nil, true, true
		}
	case 't':
		was, r.latched = r.latched, false
	case 'x':
		r.at = nil
	case '-':
		r.off, r.at, r.latched = true, nil, false
	case '+':
		r.off = false
	}
	return told, was
}

// armed is when the row is.
func (r *row) armed() (int, bool) {
	if r.at == nil {
		return 0, false
	}
	return int(r.at.Int64()), true
}

// do is a call of a device: what it answers.
func do(d *Device, c call) (int, bool) {
	switch c.kind {
	case 'p':
		return d.Program(c.now, c.t)
	case 's':
		return 0, d.Sooner(c.now, c.t)
	case 'w':
		return 0, d.Pass(c.now)
	case 't':
		return 0, d.Take()
	case 'x':
		d.Stop()
	case '-':
		d.Off()
	case '+':
		d.On()
	}
	return 0, false
}

// both is a call of both, which answer alike.
func (r *row) both(t *testing.T, d *Device, c call) {
	t.Helper()
	before := *r
	at, wasArmed := d.Armed()
	told, was := r.do(c)
	if got, is := do(d, c); got != told || is != was {
		t.Fatalf("%c %d %d of %+v: %d, %v, not %d, %v", c.kind, c.now, c.t, before, got, is, told, was)
	}
	r.check(t, d)
	if now, is := d.Armed(); is && (!wasArmed || now != at) {
		checkDistance(t, r, c, now)
	}
}

// check holds all that a device tells against the row.
func (r *row) check(t *testing.T, d *Device) {
	t.Helper()
	want, is := r.armed()
	if at, ok := d.Armed(); at != want || ok != is || d.Latched() != r.latched || d.Live() == r.off {
		t.Fatal(at, ok, d.Latched(), d.Live(), *r)
	}
}

// checkDistance: it was armed neither nearer than the least distance nor farther than the greatest (P12.2), but
// where there are no such times any more.
func checkDistance(t *testing.T, r *row, c call, at int) {
	t.Helper()
	far := new(big.Int).Sub(big.NewInt(int64(at)), exact(c.now))
	if far.Cmp(big.NewInt(int64(r.greatest))) > 0 || at < never && far.Cmp(big.NewInt(int64(r.least))) < 0 {
		t.Fatalf("%c %d %d: armed at %d, %d to %d", c.kind, c.now, c.t, at, r.least, r.greatest)
	}
}

// distances are those of devices that may be, least and greatest.
func distances() [][2]int {
	return [][2]int{{0, 1}, {1, 1}, {0, 100}, {5, 100}, {5, 5}, {99, 100}, {0, 1 << 40}, {1 << 40, 1 << 40}, {1, 1<<40 - 1}, {1<<40 - 1, 1 << 40}}
}

// edges are numbers around those at which something changes.
func edges() []int {
	l := []int{0, math.MinInt, math.MinInt + 1, math.MaxInt, math.MaxInt - 1}
	for _, n := range []int{1, 4, 5, 6, 10, 99, 100, 101, 1<<40 - 1, 1 << 40, 1<<40 + 1, 1 << 60, never - 1<<40, never - 101, never - 100, never - 5, never - 1, never, never + 1} {
		l = append(l, n, -n)
	}
	return l
}

// made is a device, with its row.
func made(t *testing.T, least, greatest int) (*row, *Device) {
	t.Helper()
	d := New(least, greatest)
	if d == nil {
		t.Fatal("no device", least, greatest)
	}
	r := &row{least: least, greatest: greatest}
	r.check(t, d)
	return r, d
}

// P12.1: the chapter's example.
func TestExample(t *testing.T) {
	d := New(5, 100)
	if at, ok := d.Program(10, 12); at != 15 || !ok {
		t.Error(at, ok)
	}
	if at, ok := d.Armed(); at != 15 || !ok {
		t.Error(at, ok)
	}
}

// P12.1: which distances a device may have; it is on at first, not armed, and nothing is latched.
func TestNew(t *testing.T) {
	for _, w := range distances() {
		made(t, w[0], w[1])
	}
	for _, w := range [][2]int{
		{0, 0}, {-1, 0}, {-1, 5}, {-1, -1}, {-5, -1}, {0, -1}, {6, 5}, {1, 0}, {2, 1}, {0, 1<<40 + 1}, {5, 1<<40 + 1}, {1<<40 + 1, 1<<40 + 1}, {1 << 40, 1<<40 - 1},
		{math.MinInt, 5}, {5, math.MaxInt}, {math.MaxInt, math.MaxInt}, {math.MinInt, math.MinInt}, {math.MinInt, math.MaxInt}, {math.MaxInt, math.MinInt}, {math.MaxInt, 5}, {5, math.MinInt}, {0, 1 << 41}, {0, 1<<63 - 1<<40},
	} {
		if d := New(w[0], w[1]); d != nil {
			t.Error(w, *d)
		}
	}
	l := edges()
	for _, least := range l {
		for _, greatest := range l {
			want := 0 <= least && least <= greatest && 1 <= greatest && greatest <= 1<<40
			if d := New(least, greatest); (d != nil) != want {
				t.Error(least, greatest, d)
			}
		}
	}
	a, b := New(1, 9), New(1, 9)
	a.Program(0, 5)
	a.Pass(5)
	if _, ok := b.Armed(); ok || b.Latched() {
		t.Error("two devices share something")
	}
}

// P12.1: a nil device, whatever it is asked.
func TestNil(t *testing.T) {
	var d *Device
	for _, now := range edges() {
		for _, at := range edges() {
			if got, ok := d.Program(now, at); got != 0 || ok || d.Sooner(now, at) {
				t.Error(now, at, got, ok)
			}
		}
		if d.Pass(now) {
			t.Error(now)
		}
	}
	d.Stop()
	d.Off()
	d.On()
	if at, ok := d.Armed(); at != 0 || ok || d.Take() || d.Latched() || d.Live() {
		t.Error(at, ok)
	}
}

// P12.1: when Program arms it, written out.
func TestProgram(t *testing.T) {
	for _, c := range []struct {
		least, greatest, now, t, want int
		armed                         bool
	}{
		{5, 100, 10, 14, 15, true}, {5, 100, 10, 15, 15, true}, {5, 100, 10, 16, 16, true}, {5, 100, 10, 10, 15, true}, {5, 100, 10, 3, 15, true}, {5, 100, 10, -3, 15, true},
		{5, 100, 10, 109, 109, true}, {5, 100, 10, 110, 110, true}, {5, 100, 10, 111, 110, true}, {5, 100, 10, 1 << 50, 110, true}, {5, 100, 10, never - 1, 110, true},
		{5, 100, 10, never, 0, false}, {5, 100, 10, never + 1, 0, false}, {5, 100, 10, math.MaxInt, 0, false}, {5, 100, 10, math.MinInt, 15, true},
		{0, 100, 10, 10, 10, true}, {0, 100, 10, 9, 10, true}, {0, 100, 0, 0, 0, true}, {0, 1, 7, 9, 8, true}, {3, 3, 7, 9, 10, true}, {3, 3, 7, 11, 10, true},
		{5, 100, -50, -48, -45, true}, {5, 100, -50, 0, 0, true}, {5, 100, -50, 60, 50, true}, {5, 100, math.MinInt, math.MinInt, 5 - never, true}, {0, 100, math.MinInt, math.MinInt, -never, true}, {5, 100, math.MinInt, 0, 100 - never, true},
		{5, 100, never - 3, 7, never, true}, {5, 100, never - 50, never - 1, never - 1, true}, {5, 100, never, 7, never, true}, {5, 100, math.MaxInt, 7, never, true}, {5, 100, never, never, 0, false},
		{1 << 40, 1 << 40, 1, 2, 1<<40 + 1, true}, {0, 1 << 40, 1, 1 << 60, 1<<40 + 1, true},
	} {
		d := New(c.least, c.greatest)
		if at, ok := d.Program(c.now, c.t); at != c.want || ok != c.armed {
			t.Errorf("of %d to %d Program(%d, %d) = %d, %v, not %d", c.least, c.greatest, c.now, c.t, at, ok, c.want)
		}
		if at, ok := d.Armed(); at != c.want || ok != c.armed || d.Latched() {
			t.Error(c, at, ok)
		}
	}
}

// P12.1: Program arms it anew, later as well as earlier; of what never comes it isn't armed any more.
func TestProgramAgain(t *testing.T) {
	d := New(5, 100)
	for _, w := range [][2]int{{50, 50}, {20, 20}, {90, 90}, {90, 90}, {never, 0}, {30, 30}, {200, 110}, {math.MaxInt, 0}, {0, 15}} {
		at, ok := d.Program(10, w[0])
		armed, is := d.Armed()
		if at != w[1] || ok != (w[1] > 0) || armed != at || is != ok {
			t.Error(w, at, ok, armed, is)
		}
	}
}

// P12.1: Sooner arms it if it isn't, or would be earlier; else it leaves it as it is.
func TestSooner(t *testing.T) {
	for _, c := range []struct {
		first      int // 0: it isn't armed
		now, t     int
		want       bool
		at         int
		staysArmed bool
	}{
		{0, 10, 50, true, 50, true}, {0, 10, 12, true, 15, true}, {0, 10, 500, true, 110, true}, {0, 10, never, false, 0, false}, {0, 10, math.MaxInt, false, 0, false},
		{50, 10, 49, true, 49, true}, {50, 10, 50, false, 50, true}, {50, 10, 51, false, 50, true}, {50, 10, 12, true, 15, true}, {50, 10, never, false, 50, true}, {50, 10, math.MaxInt, false, 50, true},
		{50, 45, 12, false, 50, true}, {50, 46, 12, false, 50, true}, {50, 44, 12, true, 49, true}, {50, 60, 12, false, 50, true}, // what counts is when it would be armed, not the time that is asked for
		{60, -50, 1000, true, 50, true}, {60, -40, 1000, false, 60, true}, {60, -41, 1000, true, 59, true},
	} {
		d := New(5, 100)
		if c.first > 0 {
			d.Program(c.first-50, c.first)
		}
		got := d.Sooner(c.now, c.t)
		if at, ok := d.Armed(); got != c.want || at != c.at || ok != c.staysArmed {
			t.Errorf("armed at %d, Sooner(%d, %d) = %v: %d, %v", c.first, c.now, c.t, got, at, ok)
		}
	}
}

// P12.1: Pass latches at the time at which it is armed, once, and not ahead of it.
func TestPass(t *testing.T) {
	for _, later := range []int{0, 1, 1000, never, math.MaxInt - 15} {
		d := New(5, 100)
		if d.Pass(15) || d.Pass(math.MaxInt) || d.Latched() {
			t.Error("latched without being armed")
		}
		d.Program(10, 12)
		for _, now := range []int{math.MinInt, -1, 0, 10, 14} {
			if d.Pass(now) || d.Latched() {
				t.Error("latched ahead of its time", now)
			}
		}
		if !d.Pass(15+later) || !d.Latched() {
			t.Error("not latched", later)
		}
		if at, ok := d.Armed(); at != 0 || ok || d.Pass(15+later) || !d.Latched() {
			t.Error("armed still", at, ok)
		}
		if !d.Take() || d.Latched() || d.Take() {
			t.Error("take", later)
		}
	}
}

// P12.1: an interrupt waits while the device is armed anew, stopped, and passes again; there is one at most.
func TestLatchStays(t *testing.T) {
	d := New(0, 100)
	d.Program(0, 5)
	d.Pass(5)
	d.Program(5, 9)
	if !d.Latched() {
		t.Error("Program took it")
	}
	d.Stop()
	d.On()
	d.Sooner(5, 9)
	if !d.Latched() || !d.Pass(9) || !d.Latched() || !d.Take() || d.Take() {
		t.Error("it didn't wait, or waited twice")
	}
}

// P12.1: Stop and Off, and what is asked of a device that is off.
func TestOff(t *testing.T) {
	d := New(5, 100)
	d.Program(10, 50)
	d.Stop()
	if at, ok := d.Armed(); at != 0 || ok || d.Pass(math.MaxInt) || !d.Live() {
		t.Error("stop", at, ok)
	}
	d.Program(10, 50)
	d.Pass(50)
	d.Program(50, 70)
	for range 2 {
		d.Off()
		if at, ok := d.Armed(); at != 0 || ok || d.Latched() || d.Live() || d.Take() {
			t.Error("off", at, ok)
		}
		for _, now := range edges() {
			for _, at := range edges() {
				if got, ok := d.Program(now, at); got != 0 || ok || d.Sooner(now, at) {
					t.Error(now, at, got, ok)
				}
			}
			if d.Pass(now) || d.Latched() {
				t.Error(now)
			}
		}
		d.Stop()
	}
	d.On()
	if at, ok := d.Armed(); at != 0 || ok || d.Latched() || !d.Live() {
		t.Error("on", at, ok)
	}
	if at, ok := d.Program(10, 50); at != 50 || !ok { // it kept its distances
		t.Error(at, ok)
	}
	d.On() // it is on: nothing changes
	if at, ok := d.Armed(); at != 50 || !ok || !d.Live() {
		t.Error(at, ok)
	}
}

// P12.1: a now below all times counts as the least of them.
func TestLeastTime(t *testing.T) {
	for _, now := range []int{-never, -never - 1, math.MinInt} {
		d := New(0, 100)
		d.Program(math.MinInt, math.MinInt)
		if !d.Pass(now) {
			t.Error(now)
		}
	}
}

// P12.1: a device that New didn't make doesn't panic.
func TestZeroDevice(t *testing.T) {
	d := &Device{}
	for _, n := range edges() {
		d.On()
		d.Program(n, n)
		d.Sooner(n, 0)
		d.Pass(n)
		d.Take()
		d.Stop()
		d.Off()
	}
}

// P12.1, P12.2: all of the edges, of devices of many distances, by Program and by Sooner.
func TestEdges(t *testing.T) {
	l := edges()
	for _, w := range distances() {
		for _, now := range l {
			for _, at := range append(l, now+w[0]-1, now+w[0], now+w[0]+1, now+w[1]-1, now+w[1], now+w[1]+1) {
				r, d := made(t, w[0], w[1])
				r.both(t, d, call{'s', now, at})
				r.both(t, d, call{'p', now, at})
				r.both(t, d, call{'s', now, at - 1})
				r.both(t, d, call{'s', now, at + 1})
				r.both(t, d, call{'w', at - 1, 0})
				r.both(t, d, call{'w', at, 0})
				r.both(t, d, call{'w', now, 0})
			}
		}
	}
}

// P12.1, P12.2: all short rows of calls.
func TestAllShort(t *testing.T) {
	l := []call{{'p', 2, 0}, {'p', 2, 4}, {'p', 2, never}, {'s', 2, 3}, {'s', 1, 9}, {'s', 2, never}, {'w', 4, 0}, {'w', 5, 0}, {'t', 0, 0}, {'x', 0, 0}, {'-', 0, 0}, {'+', 0, 0}}
	var try func(r row, d Device, left int)
	try = func(r row, d Device, left int) {
		if left == 0 {
			return
		}
		for _, c := range l {
			o, k := r, d
			o.both(t, &k, c)
			try(o, k, left-1)
		}
	}
	r, d := made(t, 1, 3)
	try(*r, *d, 4)
}

// P12.1, P12.2: long rows of any calls, while time goes on, and while it doesn't.
func TestAny(t *testing.T) {
	random := rand.New(rand.NewSource(12))
	far := edges()
	for range 300 {
		w := distances()[random.Intn(len(distances()))]
		r, d := made(t, w[0], w[1])
		now := random.Intn(1000) - 500
		for range 400 {
			now += random.Intn(4)
			c := call{"pppsssswwwwttx-++"[random.Intn(17)], now, now + random.Intn(2*min(w[1], 200)+10) - 5}
			switch random.Intn(10) {
			case 0:
				c.t = far[random.Intn(len(far))]
			case 1:
				c.now = far[random.Intn(len(far))]
			}
			r.both(t, d, c)
		}
	}
}
