package engine

import (
	"cmp"
	"slices"
	"testing"

	"fusee/api"
)

const never = api.MaxTime

// world is what an engine should be, in plain numbers: its processors, and all timers as they came to theirs.
type world struct {
	least, greatest int
	counter, mono   int
	ahead           [3]int
	stopped         bool
	stoppedAt       int
	cpus            []seat
	timers          []placed
}

// seat is a processor of a world.
type seat struct {
	online, latched, raised, kicked, armed bool
	at                                     int
}

// placed is a timer, and its processor.
type placed struct {
	api.Timer
	cpu int
}

// both are an engine and its world.
func both(t *testing.T, cpus, least, greatest int) (*world, *Engine) {
	t.Helper()
	w, e := &world{least: least, greatest: greatest}, New(cpus, least, greatest)
	for range cpus {
		w.cpus = append(w.cpus, seat{online: true})
	}
	w.check(t, e)
	return w, e
}

// counts is the time that a number counts as.
func counts(n int) int {
	switch {
	case n > never:
		return never
	case n < -never:
		return -never
	}
	return n
}

// reads is what a clock tells.
func (w *world) reads(clock int) int { return w.mono + w.ahead[clock] }

// isDue asks whether a timer is.
func (w *world) isDue(p placed) bool {
	soft := counts(p.Soft)
	return soft != never && soft <= w.reads(p.Clock)
}

// of are the timers of a processor, in order: by clock, those that aren't Lazy first, by Soft times, as they came.
func (w *world) of(cpu int) []placed {
	var l []placed
	for _, p := range w.timers {
		if p.cpu == cpu {
			l = append(l, p)
		}
	}
	lazy := map[bool]int{true: 1}
	slices.SortStableFunc(l, func(a, b placed) int {
		return cmp.Or(cmp.Compare(a.Clock, b.Clock), cmp.Compare(lazy[a.Lazy], lazy[b.Lazy]), cmp.Compare(counts(a.Soft), counts(b.Soft)))
	})
	return l
}

// find is a timer's place, or -1.
func (w *world) find(id int) int {
	return slices.IndexFunc(w.timers, func(p placed) bool { return p.ID == id })
}

// remove takes a place's timer out.
func (w *world) remove(at int) { w.timers = slices.Delete(w.timers, at, at+1) }

// first is when the first of some timers of a processor comes, by Mono.
func (w *world) first(cpu int, lazy bool) int {
	first := never
	for _, p := range w.of(cpu) {
		if counts(p.Soft) != never && (lazy || !p.Lazy) {
			first = min(first, counts(counts(p.Soft)-w.ahead[p.Clock]))
		}
	}
	return first
}

// lookAhead arms a processor's device.
func (w *world) lookAhead(cpu int) {
	c := &w.cpus[cpu]
	first := w.first(cpu, !c.raised)
	if first == never {
		return
	}
	at := min(max(first, w.mono+w.least), w.mono+w.greatest)
	if !c.armed || at < c.at {
		c.armed, c.at = true, at
	}
}

// fire lets timers of a processor come.
func (w *world) fire(cpu int, lazy bool) []api.Fired {
	var l []api.Fired
	for _, p := range w.of(cpu) {
		if p.Lazy == lazy && w.isDue(p) {
			l = append(l, api.Fired{ID: p.ID, Clock: p.Clock, CPU: cpu, Mono: w.mono, Read: w.reads(p.Clock)})
			w.remove(w.find(p.ID))
		}
	}
	return l
}

// isOnline asks whether a processor is there, and online.
func (w *world) isOnline(cpu int) bool { return cpu >= 0 && cpu < len(w.cpus) && w.cpus[cpu].online }

// do does a step.
func (w *world) do(s api.Step) ([]api.Fired, api.Errno) {
	switch s.Kind {
	case 1, 4, 5, 6, 10:
		if !w.isOnline(s.CPU) {
			return nil, api.ErrInval
		}
		return w.doAt(s, s.CPU)
	case 2:
		at := w.find(s.N)
		if at < 0 {
			return nil, api.ErrNone
		}
		w.remove(at)
		return nil, api.OK
	case 3:
		return nil, w.advance(s.N)
	case 7, 8, 9:
		return nil, w.turn(s)
	case 11:
		if s.CPU < 0 || s.CPU >= len(w.cpus) {
			return nil, api.ErrInval
		}
		if w.cpus[s.CPU].online {
			return nil, api.ErrState
		}
		w.cpus[s.CPU] = seat{online: true}
		return nil, api.OK
	case 12:
		return w.settle(), api.OK
	}
	return nil, api.ErrArg
}

// doAt does a step on a processor that is online.
func (w *world) doAt(s api.Step, cpu int) ([]api.Fired, api.Errno) {
	c := &w.cpus[cpu]
	var fired []api.Fired
	switch s.Kind {
	case 1:
		return nil, w.start(cpu, s.Timer)
	case 4:
		if !c.latched {
			return nil, api.ErrState
		}
		c.latched = false
		fired = w.fire(cpu, false)
		for _, p := range w.of(cpu) {
			c.raised = c.raised || p.Lazy && w.isDue(p)
		}
	case 5:
		if !c.raised {
			return nil, api.ErrState
		}
		c.raised = false
		fired = w.fire(cpu, true)
	case 6:
		if !c.kicked {
			return nil, api.ErrState
		}
		c.kicked = false
	case 10:
		return nil, w.leave(cpu)
	}
	w.lookAhead(cpu)
	return fired, api.OK
}

// start lets a timer come to a processor that is online.
func (w *world) start(cpu int, o api.Timer) api.Errno {
	switch {
	case o.Clock < 0 || o.Clock > 2 || o.Hard < o.Soft:
		return api.ErrInval
	case w.find(o.ID) >= 0:
		return api.ErrBusy
	case len(w.timers) >= 64:
		return api.ErrAgain
	}
	w.timers = append(w.timers, placed{o, cpu})
	w.lookAhead(cpu)
	return api.OK
}

// advance lets time go by.
func (w *world) advance(n int) api.Errno {
	if n < 0 || n > 1<<60-w.counter {
		return api.ErrInval
	}
	w.counter += n
	if !w.stopped {
		w.mono += n
	}
	for cpu := range w.cpus {
		if c := &w.cpus[cpu]; c.armed && c.at <= w.mono {
			c.armed, c.at, c.latched = false, 0, true
		}
	}
	return api.OK
}

// turn sets Real, suspends, or resumes.
func (w *world) turn(s api.Step) api.Errno {
	was := w.ahead
	switch {
	case s.Kind == 7 && (s.N < 0 || s.N > 1<<60):
		return api.ErrInval
	case s.Kind == 8 && w.stopped || s.Kind == 9 && !w.stopped:
		return api.ErrState
	case s.Kind == 7:
		w.ahead[1] = s.N - w.mono
	case s.Kind == 8:
		w.stopped, w.stoppedAt = true, w.counter
	case s.Kind == 9:
		w.stopped = false
		w.ahead[1] += w.counter - w.stoppedAt
		w.ahead[2] += w.counter - w.stoppedAt
	}
	for cpu := range w.cpus {
		if w.ahead[1] != was[1] || w.ahead[2] != was[2] {
			w.cpus[cpu].kicked = w.cpus[cpu].online
		}
	}
	return api.OK
}

// leave lets a processor that is online go.
func (w *world) leave(cpu int) api.Errno {
	next := -1
	for n := len(w.cpus) - 1; n > 0; n-- {
		if other := (cpu + n) % len(w.cpus); w.cpus[other].online {
			next = other
		}
	}
	if next < 0 {
		return api.ErrState
	}
	for _, p := range w.of(cpu) {
		w.remove(w.find(p.ID))
		w.timers = append(w.timers, placed{p.Timer, next})
	}
	w.cpus[cpu] = seat{}
	w.lookAhead(next)
	return api.OK
}

// settle does all that waits: first each kick, rising, then each interrupt, rising, then what these raised.
func (w *world) settle() []api.Fired {
	var all []api.Fired
	for _, kind := range []int{6, 4, 5} {
		for cpu := range w.cpus {
			if w.isOnline(cpu) {
				fired, _ := w.doAt(api.Step{Kind: kind}, cpu)
				all = append(all, fired...)
			}
		}
	}
	return all
}

// step does a step in both, and holds what the engine answers against the world.
func (w *world) step(t *testing.T, e *Engine, s api.Step) ([]api.Fired, api.Errno) {
	t.Helper()
	soft := map[int]int{}
	for _, p := range w.timers {
		soft[p.ID] = p.Soft
	}
	want, err := w.do(s)
	got, x := e.Do(s)
	if !slices.Equal(got, want) || x != err {
		t.Fatal(s, got, x, want, err)
	}
	for _, f := range got {
		at, there := soft[f.ID]
		if read, ok := e.Now(f.Clock); !there || !ok || read != f.Read || read < at {
			t.Fatal("it fired too early, or twice", s, f, at, there)
		}
		delete(soft, f.ID)
	}
	return got, x
}

// check holds all that an engine tells against the world.
func (w *world) check(t *testing.T, e *Engine) {
	t.Helper()
	for clock := -1; clock <= 3; clock++ {
		want, there := 0, clock >= 0 && clock < 3
		if there {
			want = w.reads(clock)
		}
		if n, ok := e.Now(clock); n != want || ok != there {
			t.Fatal("now", clock, n, ok, want)
		}
	}
	var online []int
	for cpu := -2; cpu < 18; cpu++ {
		var want seat
		if w.isOnline(cpu) {
			online = append(online, cpu)
			want = w.cpus[cpu]
		}
		w.checkOne(t, e, cpu, want)
	}
	if l := e.Online(); !slices.Equal(l, online) {
		t.Fatal("online", l, online)
	}
	for _, p := range w.timers {
		if cpu, ok := e.Where(p.ID); cpu != p.cpu || !ok {
			t.Fatal("where", p, cpu, ok)
		}
	}
	if cpu, ok := e.Where(-77); cpu != 0 || ok || e.Len() != len(w.timers) {
		t.Fatal("where, len", cpu, ok, e.Len(), len(w.timers))
	}
}

// checkOne holds what an engine tells of a processor against a seat; of one that is off, or not there, against none.
func (w *world) checkOne(t *testing.T, e *Engine, cpu int, want seat) {
	t.Helper()
	at, armed := e.Armed(cpu)
	latched, raised, kicked := e.Pending(cpu)
	if got := (seat{want.online, latched, raised, kicked, armed, at}); got != want {
		t.Fatalf("processor %d: %+v, not %+v", cpu, got, want)
	}
	var timers []api.Timer
	for _, p := range w.of(cpu) {
		timers = append(timers, p.Timer)
	}
	got := e.Timers(cpu)
	if !slices.Equal(got, timers) || !want.online && len(got) != 0 {
		t.Fatal("timers", cpu, got, timers)
	}
	if latched || raised || kicked || !want.online {
		return
	}
	// The device of one of which nothing waits is armed in time.
	if first := w.first(cpu, true); first != never && (!armed || at > max(first, w.mono+w.least)) {
		t.Fatal("not armed in time", cpu, first, at, armed)
	}
}
