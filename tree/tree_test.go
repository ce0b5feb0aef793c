package tree

import (
	"math"
	"math/bits"
	"math/rand"
	"slices"
	"testing"

	"fusee/api"
)

// held is a node as a row tells it.
type held struct {
	key    Key
	handle Handle
}

// row is what a tree should have, in order, and all handles that are gone.
type row struct {
	places int
	l      []held
	gone   []Handle
	turns  map[int]int
}

// newRow is an empty one, and the tree that goes with it.
func newRow(t *testing.T, places int) (*row, *Tree) {
	x := New(places)
	if x == nil {
		t.Fatal(places)
	}
	return &row{places: places, turns: map[int]int{}}, x
}

// put puts a key into both, and holds the answer against the words of the chapter.
func (r *row) put(t *testing.T, x *Tree, k Key) {
	h, e := x.Put(k)
	if len(r.l) == r.places {
		if e != api.ErrAgain || h != (Handle{}) {
			t.Fatal(h, e)
		}
		return
	}
	if e != api.OK {
		t.Fatal(e)
	}
	for _, o := range r.l {
		if o.handle.Place == h.Place {
			t.Fatal("a place that is in use", h)
		}
	}
	r.turns[h.Place]++
	if h.Turn != r.turns[h.Place] || len(r.turns) > r.places {
		t.Fatal("a turn", h, r.turns[h.Place])
	}
	at := 0
	for at < len(r.l) && !less(k, r.l[at].key) {
		at++
	}
	r.l = slices.Insert(r.l, at, held{k, h})
}

// less is the order of keys.
func less(a, b Key) bool { return a.Time < b.Time || a.Time == b.Time && a.Seq < b.Seq }

// drop drops the node at a place of the row from both.
func (r *row) drop(t *testing.T, x *Tree, at int) {
	h := r.l[at].handle
	if e := x.Drop(h); e != api.OK {
		t.Fatal(h, e)
	}
	r.l = slices.Delete(r.l, at, at+1)
	r.gone = append(r.gone, h)
}

// check holds a tree against the row, by all calls that change nothing.
func (r *row) check(t *testing.T, x *Tree) {
	t.Helper()
	keys := x.Keys()
	if x.Len() != len(r.l) || len(keys) != len(r.l) {
		t.Fatal(x.Len(), keys, r.l)
	}
	h, ok := x.First()
	for i, o := range r.l {
		if k, is := x.Key(o.handle); !is || k != o.key || keys[i] != o.key {
			t.Fatal(i, k, is, o.key, keys)
		}
		if !ok || h != o.handle {
			t.Fatal(i, h, ok, o.handle)
		}
		h, ok = x.Next(h)
	}
	if ok || h != (Handle{}) {
		t.Fatal(h, ok)
	}
	r.checkHeights(t, x)
	r.checkColours(t, x)
}

// checkHeights asks whether a tree is balanced, and whether its heights may be those of so many nodes.
func (r *row) checkHeights(t *testing.T, x *Tree) {
	t.Helper()
	n := len(r.l)
	least, most := x.Heights()
	wantLeast, wantMost := reach(x, x.root, 0)
	if least != wantLeast || most != wantMost || n == 0 && most != 0 || most > 2*least+1 {
		t.Fatal(n, least, most)
	}
	if whole := bits.Len(uint(n + 1)); least > whole-1 || most < bits.Len(uint(n)) {
		t.Fatal(n, least, most)
	}
}

// reach are the heights of all ways, each counted from the root.
func reach(x *Tree, n, above int) (int, int) {
	if n == 0 {
		return above, above
	}
	l, m := reach(x, x.nodes[n].down[0], above+1)
	l2, m2 := reach(x, x.nodes[n].down[1], above+1)
	return min(l, l2), max(m, m2)
}

// checkColours asks whether the tree is red and black as it should be, and hangs together.
func (r *row) checkColours(t *testing.T, x *Tree) {
	t.Helper()
	if x.nodes[x.root].red || x.nodes[0] != (node{}) || x.root != 0 && x.nodes[x.root].up != 0 {
		t.Fatal("the root")
	}
	black(t, x, x.root)
}

// black is how many black nodes all ways from n down have.
func black(t *testing.T, x *Tree, n int) int {
	t.Helper()
	if n == 0 {
		return 0
	}
	o := x.nodes[n]
	for _, d := range o.down {
		if d != 0 && (x.nodes[d].up != n || o.red && x.nodes[d].red) {
			t.Fatal("a link or a red node", n, d)
		}
	}
	a, b := black(t, x, o.down[0]), black(t, x, o.down[1])
	if a != b {
		t.Fatal("black nodes", n, a, b)
	}
	if !o.red {
		a++
	}
	return a
}

// checkAt holds At against the row.
func (r *row) checkAt(t *testing.T, x *Tree, time int) {
	t.Helper()
	want, wantOK := Handle{}, false
	for _, o := range r.l {
		if o.key.Time >= time {
			want, wantOK = o.handle, true
			break
		}
	}
	if h, ok := x.At(time); h != want || ok != wantOK {
		t.Fatal(time, h, ok, want, wantOK)
	}
}

// checkNone asks whether a tree knows nothing of a handle.
func checkNone(t *testing.T, x *Tree, h Handle) {
	t.Helper()
	if k, ok := x.Key(h); ok || k != (Key{}) {
		t.Fatal("key", h, k, ok)
	}
	if n, ok := x.Next(h); ok || n != (Handle{}) {
		t.Fatal("next", h, n, ok)
	}
	if e := x.Drop(h); e != api.ErrNone {
		t.Fatal("drop", h, e)
	}
}

// orders are all orders of the numbers below n.
func orders(n int) [][]int {
	if n == 0 {
		return [][]int{nil}
	}
	var all [][]int
	for _, l := range orders(n - 1) {
		for at := range n {
			all = append(all, slices.Insert(slices.Clone(l), at, n-1))
		}
	}
	return all
}

// P6.1: New.
func TestNew(t *testing.T) {
	for _, places := range []int{0, -1, 4097, 1 << 20, math.MinInt, math.MaxInt} {
		if New(places) != nil {
			t.Error(places)
		}
	}
	for _, places := range []int{1, 2, 3, 64, 4095, 4096} {
		r, x := newRow(t, places)
		r.check(t, x)
		for i := range places + 3 {
			r.put(t, x, Key{i * 7 % 1000, i})
		}
		r.check(t, x)
		if x.Len() != places {
			t.Error(x.Len())
		}
		for len(r.l) > 0 {
			r.drop(t, x, len(r.l)/3)
		}
		r.check(t, x)
	}
}

// P6.1: the chapter's example.
func TestExample(t *testing.T) {
	x := New(2)
	later, _ := x.Put(Key{5, 1})
	sooner, _ := x.Put(Key{3, 2})
	if h, ok := x.First(); !ok || h != sooner {
		t.Error(h, ok)
	}
	if h, ok := x.Next(sooner); !ok || h != later {
		t.Error(h, ok)
	}
}

// P6.1: a nil tree, and one that New never made.
func TestNil(t *testing.T) {
	var nothing *Tree
	for _, c := range []struct {
		x         *Tree
		put, drop api.Errno
	}{{nothing, api.ErrArg, api.ErrArg}, {&Tree{}, api.ErrAgain, api.ErrNone}} {
		for _, h := range []Handle{{}, {1, 1}, {0, 1}, {-1, -1}} {
			if k, ok := c.x.Key(h); ok || k != (Key{}) {
				t.Error(k)
			}
			if n, ok := c.x.Next(h); ok || n != (Handle{}) {
				t.Error(n)
			}
			if e := c.x.Drop(h); e != c.drop {
				t.Error(e)
			}
		}
		if h, e := c.x.Put(Key{1, 2}); e != c.put || h != (Handle{}) {
			t.Error(h, e)
		}
		if h, ok := c.x.First(); ok || h != (Handle{}) {
			t.Error(h)
		}
		if h, ok := c.x.At(math.MinInt); ok || h != (Handle{}) {
			t.Error(h)
		}
		if least, most := c.x.Heights(); least != 0 || most != 0 || c.x.Len() != 0 || len(c.x.Keys()) != 0 {
			t.Error(least, most, c.x.Len(), c.x.Keys())
		}
	}
}

// P6.1: keys at the ends of what an int holds, and like ones, which stay in the order in which they came.
func TestOrder(t *testing.T) {
	ends := []int{math.MinInt, math.MinInt + 1, -api.MaxTime, -5, -1, 0, 1, 5, api.MaxTime, math.MaxInt - 1, math.MaxInt}
	r, x := newRow(t, 3*len(ends)*len(ends))
	for range 3 {
		for i := range ends {
			for j := range ends {
				r.put(t, x, Key{ends[i*7%len(ends)], ends[j*4%len(ends)]})
			}
		}
		r.check(t, x)
	}
	for _, time := range append(ends, -2, 2, 100, api.MaxTime-1) {
		r.checkAt(t, x, time)
	}
}

// P6.1: handles of nodes that are gone, or never were: even where the place is filled again.
func TestHandles(t *testing.T) {
	x := New(1)
	for turn := 1; turn <= 50; turn++ {
		h, e := x.Put(Key{turn, 0})
		if e != api.OK || h.Turn != turn {
			t.Fatal(h, e)
		}
		for wrong := -1; wrong <= 60; wrong++ {
			if wrong != turn {
				checkNone(t, x, Handle{h.Place, wrong})
			}
		}
		for _, place := range []int{h.Place - 1, h.Place + 1, -1, 2, 3, 4097, math.MinInt, math.MaxInt} {
			checkNone(t, x, Handle{place, turn})
			checkNone(t, x, Handle{place, 0})
		}
		if k, ok := x.Key(h); !ok || k != (Key{turn, 0}) || x.Len() != 1 {
			t.Fatal(k, ok)
		}
		if e := x.Drop(h); e != api.OK || x.Len() != 0 {
			t.Fatal(e)
		}
		checkNone(t, x, h)
		checkNone(t, x, Handle{h.Place, 0})
		checkNone(t, x, Handle{h.Place, turn + 1})
	}
	checkNone(t, New(5), Handle{})
	checkNone(t, New(5), Handle{1, 0})
}

// P6.1, P6.2: all orders in which a few nodes come, and all in which they go.
func TestSmall(t *testing.T) {
	all := orders(5)
	for _, come := range all {
		for _, leave := range all {
			r, x := newRow(t, 5)
			for _, k := range come {
				r.put(t, x, Key{k / 2, k % 2})
				r.check(t, x)
			}
			for i, at := range leave {
				for _, before := range leave[:i] {
					if before < leave[i] {
						at--
					}
				}
				r.drop(t, x, at)
				r.check(t, x)
			}
		}
	}
}

// P6.1, P6.2: any nodes come and go.
func TestAny(t *testing.T) {
	random := rand.New(rand.NewSource(6))
	for _, places := range []int{1, 2, 3, 7, 20, 63, 200} {
		for _, times := range []int{1, 3, 50, 100000} {
			r, x := newRow(t, places)
			for range 1500 {
				if len(r.l) > 0 && random.Intn(100) < 48 {
					r.drop(t, x, random.Intn(len(r.l)))
				} else {
					r.put(t, x, Key{random.Intn(times) - times/2, random.Intn(4)})
				}
				if len(r.gone) > 0 {
					checkNone(t, x, r.gone[random.Intn(len(r.gone))])
				}
				r.check(t, x)
				r.checkAt(t, x, random.Intn(times+4)-times/2-2)
			}
		}
	}
}

// P6.2: many nodes come rising, falling, and in turns, and go from one end, or from within.
func TestBalance(t *testing.T) {
	const places = 700
	comes := []func(i int) int{
		func(i int) int { return i },
		func(i int) int { return -i },
		func(i int) int { return i * (1 - i%2*2) },
		func(i int) int { return (i * 389) % 701 },
		func(i int) int { return 0 },
	}
	leaves := []func(n int) int{
		func(n int) int { return 0 },
		func(n int) int { return n - 1 },
		func(n int) int { return n / 2 },
		func(n int) int { return n % 2 * (n - 1) },
		func(n int) int { return n * 2 / 3 },
	}
	for _, come := range comes {
		for _, leave := range leaves {
			r, x := newRow(t, places)
			for i := range places {
				r.put(t, x, Key{Time: come(i)})
				r.checkHeights(t, x)
			}
			r.check(t, x)
			for n := places; n > 0; n-- {
				r.drop(t, x, leave(n))
				r.checkHeights(t, x)
			}
			r.check(t, x)
		}
	}
}

// P6.2: a full tree of the greatest size, behind each node that comes and goes.
func TestGreatest(t *testing.T) {
	x := New(4096)
	var l []Handle
	for i := range 4096 {
		h, e := x.Put(Key{Time: i})
		if e != api.OK {
			t.Fatal(e)
		}
		l = append(l, h)
	}
	if least, most := x.Heights(); most > 2*least+1 || most > 24 {
		t.Error(least, most)
	}
	for i, h := range l {
		if e := x.Drop(h); e != api.OK {
			t.Fatal(e)
		}
		if i%64 == 0 {
			if least, most := x.Heights(); most > 2*least+1 {
				t.Fatal(i, least, most)
			}
		}
	}
}

// P6.1: what Keys answers is the caller's own.
func TestKeysAreNew(t *testing.T) {
	x := New(3)
	x.Put(Key{2, 0})
	x.Put(Key{1, 0})
	l := x.Keys()
	l[0] = Key{9, 9}
	_ = append(l[:1], Key{8, 8})
	if got := x.Keys(); !slices.Equal(got, []Key{{1, 0}, {2, 0}}) {
		t.Error(got)
	}
}
