package engine

import (
	"math"
	"math/rand"
	"slices"
	"testing"

	"fusee/api"
)

// Steps, by short names.

func start(cpu, id, clock, soft int) api.Step {
	return api.Step{Kind: 1, CPU: cpu, Timer: api.Timer{ID: id, Clock: clock, Soft: soft, Hard: max(soft, math.MaxInt-1)}}
}

func startLazy(cpu, id, clock, soft int) api.Step {
	s := start(cpu, id, clock, soft)
	s.Timer.Lazy = true
	return s
}

func cancel(id int) api.Step   { return api.Step{Kind: 2, N: id} }
func advance(n int) api.Step   { return api.Step{Kind: 3, N: n} }
func irq(cpu int) api.Step     { return api.Step{Kind: 4, CPU: cpu} }
func softirq(cpu int) api.Step { return api.Step{Kind: 5, CPU: cpu} }
func kick(cpu int) api.Step    { return api.Step{Kind: 6, CPU: cpu} }
func set(t int) api.Step       { return api.Step{Kind: 7, N: t} }
func suspend() api.Step        { return api.Step{Kind: 8} }
func resume() api.Step         { return api.Step{Kind: 9} }
func offline(cpu int) api.Step { return api.Step{Kind: 10, CPU: cpu} }
func online(cpu int) api.Step  { return api.Step{Kind: 11, CPU: cpu} }
func settle() api.Step         { return api.Step{Kind: 12} }

// edges are numbers around those at which something changes.
func edges() []int {
	l := []int{0, math.MinInt, math.MinInt + 1, math.MaxInt, math.MaxInt - 1, 1 << 32, 1<<32 + 1}
	for _, n := range []int{1, 2, 1 << 40, 1<<60 - 1, 1 << 60, 1<<60 + 1, never - 1, never, never + 1} {
		l = append(l, n, -n)
	}
	return l
}

// mustDo does steps of which each is OK, and tells all that fired.
func mustDo(t *testing.T, e *Engine, steps ...api.Step) []api.Fired {
	t.Helper()
	var all []api.Fired
	for _, s := range steps {
		l, x := e.Do(s)
		if x != api.OK {
			t.Fatal(s, x)
		}
		all = append(all, l...)
	}
	return all
}

// checkFired does a step, and asks whether just this fired.
func checkFired(t *testing.T, e *Engine, s api.Step, want ...api.Fired) {
	t.Helper()
	if l, x := e.Do(s); x != api.OK || !slices.Equal(l, want) {
		t.Fatal(s, l, x, want)
	}
}

// checkWrong does a step that must answer an error, and changes nothing.
func (w *world) checkWrong(t *testing.T, e *Engine, s api.Step, want api.Errno) {
	t.Helper()
	if l, x := e.Do(s); x != want || len(l) != 0 {
		t.Fatal(s, l, x, want)
	}
	w.check(t, e)
}

// checkArmed asks when a processor's device is armed; below 0: not at all.
func checkArmed(t *testing.T, e *Engine, cpu, want int) {
	t.Helper()
	at, ok := e.Armed(cpu)
	if ok != (want >= 0) || at != max(want, 0) {
		t.Fatal("armed", cpu, at, ok, want)
	}
}

// checkPending asks what waits on a processor.
func checkPending(t *testing.T, e *Engine, cpu int, latched, raised, kicked bool) {
	t.Helper()
	if l, r, k := e.Pending(cpu); l != latched || r != raised || k != kicked {
		t.Fatal("pending", cpu, l, r, k)
	}
}

// checkIDs asks whether a processor's timers have these IDs, in order.
func checkIDs(t *testing.T, e *Engine, cpu int, want ...int) {
	t.Helper()
	var got []int
	for _, o := range e.Timers(cpu) {
		got = append(got, o.ID)
		if at, ok := e.Where(o.ID); at != cpu || !ok {
			t.Fatal("where", o, at, ok)
		}
	}
	if !slices.Equal(got, want) {
		t.Fatal("timers", cpu, got, want)
	}
}

// P15.1: the chapter's example.
func TestExample(t *testing.T) {
	e := New(1, 1, 1000)
	mustDo(t, e, start(0, 7, api.Mono, 10))
	checkArmed(t, e, 0, 10)
	mustDo(t, e, advance(10))
	checkArmed(t, e, 0, -1)
	checkPending(t, e, 0, true, false, false)
	checkFired(t, e, irq(0), api.Fired{ID: 7, Mono: 10, Read: 10})
	if e.Len() != 0 || len(e.Timers(0)) != 0 {
		t.Error(e.Len())
	}
}

// P15.1, P15.2: Real is set forward: a timer of it is due, and fires behind the kick, and the least distance.
func TestSetForward(t *testing.T) {
	e := New(2, 3, 1000)
	mustDo(t, e, start(1, 7, api.Real, 500), advance(10))
	checkArmed(t, e, 1, 500)
	mustDo(t, e, set(600))
	checkArmed(t, e, 1, 500)
	checkPending(t, e, 1, false, false, true)
	checkPending(t, e, 0, false, false, true)
	mustDo(t, e, kick(1))
	checkPending(t, e, 1, false, false, false)
	checkPending(t, e, 0, false, false, true)
	checkArmed(t, e, 1, 13)
	mustDo(t, e, advance(2))
	if _, x := e.Do(irq(1)); x != api.ErrState {
		t.Error(x)
	}
	mustDo(t, e, advance(1))
	checkFired(t, e, irq(1), api.Fired{ID: 7, Clock: 1, CPU: 1, Mono: 13, Read: 603})
}

// P15.1, P15.2: Real is set back: a timer of it doesn't fire till Real tells its time again.
func TestSetBack(t *testing.T) {
	e := New(1, 1, 1000)
	mustDo(t, e, set(100), settle(), start(0, 7, api.Real, 110), startLazy(0, 8, api.Real, 110), advance(9), set(50))
	checkFired(t, e, settle())
	checkArmed(t, e, 0, 10)
	mustDo(t, e, advance(1))
	checkFired(t, e, irq(0))
	checkPending(t, e, 0, false, false, false)
	checkArmed(t, e, 0, 69)
	mustDo(t, e, advance(58))
	checkFired(t, e, settle())
	mustDo(t, e, advance(1))
	checkFired(t, e, settle(), api.Fired{ID: 7, Clock: 1, Mono: 69, Read: 110}, api.Fired{ID: 8, Clock: 1, Mono: 69, Read: 110})
}

// P15.1, P15.2: a Lazy timer for which a processor is raised doesn't fire if Real was set back since, and isn't
// forgotten.
func TestSetBackRaised(t *testing.T) {
	e := New(1, 1, 1000)
	mustDo(t, e, startLazy(0, 8, api.Real, 10), advance(10), irq(0))
	checkPending(t, e, 0, false, true, false)
	mustDo(t, e, set(4), kick(0))
	checkArmed(t, e, 0, -1)
	checkPending(t, e, 0, false, true, false)
	checkFired(t, e, softirq(0))
	checkPending(t, e, 0, false, false, false)
	checkArmed(t, e, 0, 16)
	mustDo(t, e, advance(6))
	checkFired(t, e, settle(), api.Fired{ID: 8, Clock: 1, Mono: 16, Read: 10})
}

// P15.1: all is suspended: timers of Mono wait, those of Boot and Real are due when it goes on.
func TestSuspend(t *testing.T) {
	w, e := both(t, 2, 1, 1000)
	for _, s := range []api.Step{start(0, 1, api.Mono, 20), start(1, 2, api.Boot, 20), startLazy(0, 3, api.Real, 20), advance(5), suspend(), advance(100)} {
		w.step(t, e, s)
		w.check(t, e)
	}
	w.checkWrong(t, e, suspend(), api.ErrState)
	checkFired(t, e, settle())
	checkPending(t, e, 0, false, false, false)
	mustDo(t, e, resume())
	checkPending(t, e, 0, false, false, true)
	checkPending(t, e, 1, false, false, true)
	checkFired(t, e, settle())
	checkArmed(t, e, 0, 6)
	checkArmed(t, e, 1, 6)
	if _, x := e.Do(resume()); x != api.ErrState {
		t.Error(x)
	}
	checkPending(t, e, 0, false, false, false)
	mustDo(t, e, advance(1))
	checkFired(t, e, settle(), api.Fired{ID: 2, Clock: 2, CPU: 1, Mono: 6, Read: 106}, api.Fired{ID: 3, Clock: 1, Mono: 6, Read: 106})
	checkArmed(t, e, 0, 20)
	mustDo(t, e, advance(14))
	checkFired(t, e, settle(), api.Fired{ID: 1, Mono: 20, Read: 20})
}

// P15.1: nobody is kicked where no offset changed, or Set may not be; who comes later isn't kicked.
func TestNotKicked(t *testing.T) {
	w, e := both(t, 3, 1, 1000)
	for _, s := range []api.Step{advance(7), set(7), suspend(), resume(), suspend(), advance(0), resume(), offline(1)} {
		w.step(t, e, s)
		w.check(t, e)
		for cpu := range 3 {
			checkPending(t, e, cpu, false, false, false)
		}
	}
	for _, n := range edges() {
		if n < 0 || n > 1<<60 {
			w.checkWrong(t, e, set(n), api.ErrInval)
		}
	}
	w.step(t, e, set(8))
	w.step(t, e, online(1))
	w.check(t, e)
	checkPending(t, e, 0, false, false, true)
	checkPending(t, e, 1, false, false, false)
	checkPending(t, e, 2, false, false, true)
	w.step(t, e, kick(0))
	w.step(t, e, set(8))
	w.check(t, e)
	checkPending(t, e, 0, false, false, false)
	checkPending(t, e, 2, false, false, true)
}

// P15.1: a timer beyond the greatest time never comes, and no device is armed for it.
func TestNever(t *testing.T) {
	for _, soft := range []int{never, never + 1, math.MaxInt} {
		for clock := range 3 {
			w, e := both(t, 1, 1, 1<<40)
			for _, s := range []api.Step{start(0, 1, clock, soft), startLazy(0, 2, clock, soft), set(1 << 60), settle(), advance(1 << 60), settle()} {
				if fired, _ := w.step(t, e, s); len(fired) != 0 {
					t.Error(fired)
				}
				w.check(t, e)
				checkArmed(t, e, 0, -1)
			}
			checkIDs(t, e, 0, 1, 2)
		}
	}
}

// P15.1: how many processors there are, and which devices may be.
func TestNew(t *testing.T) {
	for _, cpus := range append(edges(), -1, 3, 15, 16, 17, 64, 65) {
		for _, c := range []struct {
			least, greatest int
			ok              bool
		}{
			{0, 1, true}, {1, 1, true}, {0, 1 << 40, true}, {1 << 40, 1 << 40, true}, {5, 1000, true},
			{0, 0, false}, {1, 0, false}, {-1, 5, false}, {6, 5, false}, {0, -1, false}, {0, 1<<40 + 1, false},
			{math.MinInt, math.MaxInt, false}, {math.MaxInt, math.MinInt, false},
		} {
			e := New(cpus, c.least, c.greatest)
			if (e != nil) != (c.ok && cpus >= 1 && cpus <= 16) {
				t.Error(cpus, c, e != nil)
			}
			if e != nil {
				both(t, cpus, c.least, c.greatest)
			}
		}
	}
}

// P15.1: all processors' devices have the distances that New was told.
func TestDistances(t *testing.T) {
	for _, c := range [][2]int{{0, 1}, {1, 1}, {5, 9}, {9, 1 << 40}, {1 << 40, 1 << 40}} {
		for _, soft := range []int{-5, 0, 3, 8, 100, 1 << 50} {
			w, e := both(t, 16, c[0], c[1])
			w.step(t, e, advance(3))
			for cpu := range 16 {
				w.step(t, e, start(cpu, cpu, api.Boot, soft))
				w.check(t, e)
				checkArmed(t, e, cpu, min(max(soft, 3+c[0]), 3+c[1]))
			}
		}
	}
}

// checkNothing asks whether an engine has nothing, whatever it is asked.
func checkNothing(t *testing.T, e *Engine) {
	t.Helper()
	for _, n := range append(edges(), -1, 3, 15, 16) {
		cpu, found := e.Where(n)
		at, armed := e.Armed(n)
		latched, raised, kicked := e.Pending(n)
		if cpu != 0 || found || at != 0 || armed || latched || raised || kicked || len(e.Timers(n)) != 0 {
			t.Error(n, cpu, found, at, armed, latched, raised, kicked)
		}
		if now, ok := e.Now(n); now != 0 || ok {
			t.Error("now", n, now, ok)
		}
	}
	if len(e.Online()) != 0 || e.Len() != 0 {
		t.Error(e.Online(), e.Len())
	}
}

// P15.1: a nil engine, whatever it is asked.
func TestNil(t *testing.T) {
	var e *Engine
	checkNothing(t, e)
	var all []api.Step
	for kind := -2; kind < 16; kind++ {
		for _, n := range edges() {
			s := start(n, n, n, n)
			s.Kind, s.N = kind, n
			if l, x := e.Do(s); len(l) != 0 || x != api.ErrArg {
				t.Error(s, l, x)
			}
			all = append(all, s)
		}
	}
	if l := e.Run(all); len(l) != 0 {
		t.Error(l)
	}
	if l := e.Run(nil); len(l) != 0 {
		t.Error(l)
	}
	checkNothing(t, e)
}

// P15.1: an engine that New didn't make has no processors, and answers.
func TestZeroEngine(t *testing.T) {
	e := &Engine{}
	checkNothing(t, e)
	for kind := -2; kind < 16; kind++ {
		for _, n := range edges() {
			s := start(n, n, 0, n)
			s.Kind, s.N = kind, n
			if l, x := e.Do(s); len(l) != 0 || x == api.OK && kind != 12 {
				t.Error(s, l, x)
			}
		}
	}
	checkNothing(t, e)
}

// P15.1: what is no kind of a step, whatever else it has.
func TestNoSuchKind(t *testing.T) {
	w, e := busy(t)
	for _, kind := range append(edges(), -1, 13, 14, 16, 255, 256, 1<<32+3) {
		if kind >= 1 && kind <= 12 {
			continue
		}
		for _, cpu := range []int{0, 1, 2, 3, -1} {
			s := start(cpu, 999, 0, 5)
			s.Kind, s.N = kind, 1
			w.checkWrong(t, e, s, api.ErrArg)
		}
	}
}

// busy is an engine of four processors of which all wait for something: 0 is kicked, latched and raised, 1 is
// kicked and has timers, 2 is off, 3 is kicked, and was latched at a Lazy timer.
func busy(t *testing.T) (*world, *Engine) {
	t.Helper()
	w, e := both(t, 4, 2, 1000)
	for _, s := range []api.Step{
		startLazy(0, 1, 0, 10), start(0, 2, 0, 10), start(1, 3, 1, 100), startLazy(3, 4, 2, 30), start(0, 5, 2, 30),
		advance(10), irq(0), start(0, 6, 0, 12), start(2, 7, 1, never), startLazy(1, 8, 0, 5000), offline(2), advance(20), set(70),
	} {
		if _, x := w.step(t, e, s); x != api.OK {
			t.Fatal(s, x)
		}
		w.check(t, e)
	}
	checkPending(t, e, 0, true, true, true)
	checkPending(t, e, 1, false, false, true)
	checkPending(t, e, 3, true, false, true)
	return w, e
}

// P15.1: steps of a processor that isn't there, or isn't online, also where there are other errors.
func TestNoSuchProcessor(t *testing.T) {
	for _, cpu := range append(edges(), -1, 2, 4, 5, 15, 16, 17, 31, 32, 63, 64) {
		if cpu == 0 || cpu == 1 || cpu == 3 {
			continue
		}
		w, e := busy(t)
		for _, id := range []int{1, 99} {
			w.checkWrong(t, e, start(cpu, id, 0, 5), api.ErrInval)
			w.checkWrong(t, e, start(cpu, id, 3, 5), api.ErrInval)
		}
		for _, s := range []api.Step{irq(cpu), softirq(cpu), kick(cpu), offline(cpu)} {
			w.checkWrong(t, e, s, api.ErrInval)
		}
		if cpu != 2 {
			w.checkWrong(t, e, online(cpu), api.ErrInval)
		}
	}
	w, e := both(t, 1, 1, 1)
	for _, s := range []api.Step{start(1, 1, 0, 5), irq(1), softirq(1), kick(1), offline(1), online(1), offline(-1), online(-1)} {
		w.checkWrong(t, e, s, api.ErrInval)
	}
}

// P15.1: steps look at nothing but what they are told to look at.
func TestOtherFields(t *testing.T) {
	for _, n := range edges() {
		for _, s := range []api.Step{cancel(3), cancel(99), advance(25), advance(-1), set(90), suspend(), resume(), settle()} {
			w, e := busy(t)
			s.CPU, s.Timer = n, api.Timer{ID: n, Clock: n, Soft: n, Hard: -n, Lazy: true}
			w.step(t, e, s)
			w.check(t, e)
		}
		for _, s := range []api.Step{irq(0), softirq(0), kick(1), offline(0), online(2), online(0), irq(1)} {
			w, e := busy(t)
			s.N, s.Timer = n, api.Timer{ID: n, Clock: n, Soft: n, Hard: -n, Lazy: true}
			w.step(t, e, s)
			w.check(t, e)
		}
		w, e := busy(t)
		s := start(1, 99, 0, 40)
		s.N = n
		if _, x := w.step(t, e, s); x != api.OK {
			t.Error(s, x)
		}
		w.check(t, e)
	}
}

// P15.1: a timer that may not be: no such clock, or Hard below Soft, as they are; this is told ahead of an ID that
// is there, and of no room.
func TestStartWrong(t *testing.T) {
	w, e := busy(t)
	full, crowded := both(t, 2, 1, 9)
	for id := range 64 {
		full.step(t, crowded, start(id%2, id, id%3, id))
	}
	full.check(t, crowded)
	wrong := func(o api.Timer) {
		for _, id := range []int{1, 3, 99} {
			o.ID = id
			s := api.Step{Kind: 1, CPU: 1, Timer: o}
			w.checkWrong(t, e, s, api.ErrInval)
			full.checkWrong(t, crowded, s, api.ErrInval)
		}
	}
	for _, clock := range []int{-1, 3, 4, 1 << 32, math.MinInt, math.MaxInt} {
		wrong(api.Timer{Clock: clock, Soft: 5, Hard: 9})
		wrong(api.Timer{Clock: clock, Soft: 9, Hard: 5, Lazy: true})
	}
	for _, soft := range edges() {
		for _, hard := range edges() {
			if hard < soft {
				wrong(api.Timer{Clock: 1, Soft: soft, Hard: hard})
				continue
			}
			w, e := both(t, 1, 1, 1000)
			if _, x := w.step(t, e, api.Step{Kind: 1, Timer: api.Timer{Clock: 2, Soft: soft, Hard: hard}}); x != api.OK {
				t.Error(soft, hard, x)
			}
			w.check(t, e)
		}
	}
}

// P15.1: an ID that is there is in use, on whichever processor, clock and queue, also where no room is left; it
// isn't any more when its timer fired, or was cancelled.
func TestStartBusy(t *testing.T) {
	for n := range 12 {
		w, e := both(t, 2, 1, 1000)
		one := func(n, soft int) api.Step {
			s := start(n%2, -5, n/4, soft)
			s.Timer.Lazy = n/2%2 == 1
			return s
		}
		w.step(t, e, one(n, 10))
		for other := range 12 {
			w.checkWrong(t, e, one(other, 3), api.ErrBusy)
		}
		for id := range 63 {
			w.step(t, e, start(0, id, id%3, 90))
		}
		for other := range 12 {
			w.checkWrong(t, e, one(other, 3), api.ErrBusy)
			s := one(other, 3)
			s.Timer.ID = 63
			w.checkWrong(t, e, s, api.ErrAgain)
		}
		for other := range 12 {
			w.step(t, e, cancel(-5))
			if _, x := w.step(t, e, one(other, 10)); x != api.OK {
				t.Error(other, x)
			}
			w.check(t, e)
		}
		w.step(t, e, advance(10))
		if fired, _ := w.step(t, e, settle()); len(fired) != 1 || fired[0].ID != -5 {
			t.Error(fired)
		}
		if _, x := w.step(t, e, one(n, 5)); x != api.OK {
			t.Error(x)
		}
		w.check(t, e)
	}
}

// P15.1: there is room for 64 timers in all, however they lie, and again when one went.
func TestMaxTimers(t *testing.T) {
	for cpus := 1; cpus <= 16; cpus++ {
		w, e := both(t, cpus, 1, 1000)
		for id := range 66 {
			s := start(id%cpus, id, id/2%3, 1000-id)
			s.Timer.Lazy = id%5 == 0
			_, x := w.step(t, e, s)
			if (x == api.OK) != (id < 64) || id >= 64 && x != api.ErrAgain {
				t.Error(id, x)
			}
		}
		w.check(t, e)
		w.step(t, e, cancel(30))
		w.step(t, e, start(0, 70, 0, 5))
		w.step(t, e, start(0, 71, 0, 5))
		w.check(t, e)
		for cpu := range cpus - 1 {
			w.step(t, e, offline(cpu))
			w.check(t, e)
			w.step(t, e, start(cpus-1, 72, 1, 5))
		}
		if e.Len() != 64 || len(e.Timers(cpus-1)) != 64 {
			t.Error(e.Len())
		}
		w.step(t, e, advance(2000))
		if fired, _ := w.step(t, e, settle()); len(fired) != 64 || e.Len() != 0 {
			t.Error(fired, e.Len())
		}
		w.check(t, e)
	}
}

// P15.1: a timer that is cancelled is taken out, wherever it is, and no other one is; no device changes by it.
func TestCancel(t *testing.T) {
	w, e := busy(t)
	for _, id := range append(edges(), -1, 9, 10) {
		if w.find(id) < 0 {
			w.checkWrong(t, e, cancel(id), api.ErrNone)
		}
	}
	for len(w.timers) > 0 {
		id := w.timers[len(w.timers)/2].ID
		at, armed := e.Armed(1)
		w.step(t, e, cancel(id))
		w.check(t, e)
		w.checkWrong(t, e, cancel(id), api.ErrNone)
		if at2, armed2 := e.Armed(1); at2 != at || armed2 != armed {
			t.Error(id, at, armed, at2, armed2)
		}
		if _, ok := e.Where(id); ok {
			t.Error(id)
		}
	}
	if e.Len() != 0 {
		t.Error(e.Len())
	}
	fresh := New(1, 1, 1000)
	mustDo(t, fresh, start(0, math.MinInt, 0, 10), cancel(math.MinInt))
	checkArmed(t, fresh, 0, 10)
	mustDo(t, fresh, start(0, 1, 0, 20), advance(10))
	checkPending(t, fresh, 0, true, false, false)
	checkFired(t, fresh, irq(0))
	checkArmed(t, fresh, 0, 20)
}

// P15.1: time goes by: each device that is armed for no later time has an interrupt; beside an error none has.
func TestAdvance(t *testing.T) {
	w, e := both(t, 4, 0, 1000)
	for cpu, soft := range []int{5, 6, 0, 5} {
		w.step(t, e, start(cpu, cpu, api.Mono, soft))
	}
	for _, n := range edges() {
		if n < 0 || n > 1<<60 {
			w.checkWrong(t, e, advance(n), api.ErrInval)
		}
	}
	w.step(t, e, advance(0))
	w.check(t, e)
	checkPending(t, e, 2, true, false, false)
	checkPending(t, e, 0, false, false, false)
	w.step(t, e, offline(3))
	w.step(t, e, advance(4))
	w.check(t, e)
	checkPending(t, e, 0, false, false, false)
	w.step(t, e, advance(1))
	w.check(t, e)
	checkPending(t, e, 0, true, false, false)
	checkPending(t, e, 1, false, false, false)
	checkPending(t, e, 3, false, false, false)
	w.checkWrong(t, e, advance(1<<60-4), api.ErrInval)
	w.step(t, e, advance(1<<60-5))
	w.check(t, e)
	checkPending(t, e, 1, true, false, false)
	w.checkWrong(t, e, advance(1), api.ErrInval)
	w.step(t, e, advance(0))
	w.step(t, e, settle())
	w.check(t, e)
}

// P15.1: at an interrupt those that aren't Lazy fire, by clock, each clock's in order; Lazy ones that are due raise.
func TestIrq(t *testing.T) {
	e := New(2, 1, 1000)
	mustDo(t, e, set(100), settle(), start(1, 1, api.Boot, 8), start(1, 2, api.Real, 109), start(1, 3, api.Real, 108), startLazy(1, 4, api.Mono, 3),
		start(1, 5, api.Mono, 10), start(1, 6, api.Mono, 9), start(1, 7, api.Mono, 10), start(1, 8, api.Mono, 11), startLazy(1, 9, api.Real, 111),
		start(0, 10, api.Mono, 1), startLazy(1, 11, api.Boot, 2), start(1, 12, api.Boot, 11), advance(10))
	checkFired(t, e, irq(1), api.Fired{ID: 6, CPU: 1, Mono: 10, Read: 10}, api.Fired{ID: 5, CPU: 1, Mono: 10, Read: 10}, api.Fired{ID: 7, CPU: 1, Mono: 10, Read: 10},
		api.Fired{ID: 3, Clock: 1, CPU: 1, Mono: 10, Read: 110}, api.Fired{ID: 2, Clock: 1, CPU: 1, Mono: 10, Read: 110}, api.Fired{ID: 1, Clock: 2, CPU: 1, Mono: 10, Read: 10})
	checkPending(t, e, 1, false, true, false)
	checkPending(t, e, 0, true, false, false)
	checkArmed(t, e, 1, 11)
	checkIDs(t, e, 1, 8, 4, 9, 12, 11)
	if l, x := e.Do(irq(1)); len(l) != 0 || x != api.ErrState {
		t.Error(l, x)
	}
	mustDo(t, e, advance(1))
	checkFired(t, e, irq(1), api.Fired{ID: 8, CPU: 1, Mono: 11, Read: 11}, api.Fired{ID: 12, Clock: 2, CPU: 1, Mono: 11, Read: 11})
	checkPending(t, e, 1, false, true, false)
	checkArmed(t, e, 1, -1)
	checkFired(t, e, softirq(1), api.Fired{ID: 4, CPU: 1, Mono: 11, Read: 11}, api.Fired{ID: 9, Clock: 1, CPU: 1, Mono: 11, Read: 111}, api.Fired{ID: 11, Clock: 2, CPU: 1, Mono: 11, Read: 11})
	checkPending(t, e, 1, false, false, false)
	checkArmed(t, e, 1, -1)
	if l, x := e.Do(softirq(1)); len(l) != 0 || x != api.ErrState {
		t.Error(l, x)
	}
	checkFired(t, e, irq(0), api.Fired{ID: 10, Mono: 11, Read: 11})
}

// P15.1: a Lazy timer that isn't due raises nothing, and is looked ahead at; while a processor is raised none is.
func TestLazy(t *testing.T) {
	e := New(1, 1, 1000)
	mustDo(t, e, startLazy(0, 1, api.Mono, 10), start(0, 2, api.Mono, 5), advance(5))
	checkFired(t, e, irq(0), api.Fired{ID: 2, Mono: 5, Read: 5})
	checkPending(t, e, 0, false, false, false)
	checkArmed(t, e, 0, 10)
	mustDo(t, e, advance(5), irq(0), startLazy(0, 3, api.Mono, 12))
	checkPending(t, e, 0, false, true, false)
	checkArmed(t, e, 0, -1)
	mustDo(t, e, start(0, 4, api.Mono, 20))
	checkArmed(t, e, 0, 20)
	checkFired(t, e, softirq(0), api.Fired{ID: 1, Mono: 10, Read: 10})
	checkArmed(t, e, 0, 12)
}

// P15.1: a step that waits for nothing changes nothing.
func TestNothingWaits(t *testing.T) {
	w, e := both(t, 2, 1, 1000)
	for range 2 {
		for cpu := range 2 {
			for _, s := range []api.Step{irq(cpu), softirq(cpu), kick(cpu), online(cpu)} {
				w.checkWrong(t, e, s, api.ErrState)
			}
		}
		w.step(t, e, start(0, 1, api.Mono, 30))
		w.step(t, e, startLazy(1, 2, api.Real, 30))
		w.step(t, e, advance(7))
	}
}

// P15.1: a device that is armed is set anew only for a sooner time.
func TestSooner(t *testing.T) {
	e := New(1, 5, 100)
	for _, c := range [][2]int{{5000, 100}, {90, 90}, {95, 90}, {90, 90}, {89, 89}, {3, 5}, {4, 5}} {
		mustDo(t, e, start(0, 1000+e.Len(), api.Mono, c[0]))
		checkArmed(t, e, 0, c[1])
	}
}

// P15.1: a processor goes: its timers go to the next one that is online, behind like ones that are there, and that
// one is armed for them; what waited on it waits no more.
func TestOffline(t *testing.T) {
	e := New(4, 1, 1000)
	mustDo(t, e, start(1, 1, api.Mono, 20), start(1, 2, api.Mono, 10), startLazy(1, 3, api.Boot, 10), start(3, 4, api.Mono, 20), start(3, 5, api.Mono, 30),
		start(2, 6, api.Real, 40), offline(2))
	checkIDs(t, e, 2)
	checkIDs(t, e, 3, 4, 5, 6)
	checkArmed(t, e, 2, -1)
	checkArmed(t, e, 3, 20)
	mustDo(t, e, offline(1))
	checkIDs(t, e, 1)
	checkIDs(t, e, 3, 2, 4, 1, 5, 6, 3)
	checkArmed(t, e, 1, -1)
	checkArmed(t, e, 3, 10)
	if l := e.Online(); !slices.Equal(l, []int{0, 3}) {
		t.Error(l)
	}
	mustDo(t, e, advance(10), set(50))
	checkPending(t, e, 3, true, false, true)
	checkPending(t, e, 1, false, false, false)
	mustDo(t, e, kick(0), offline(3))
	checkPending(t, e, 3, false, false, false)
	checkPending(t, e, 0, false, false, false)
	checkIDs(t, e, 0, 2, 4, 1, 5, 6, 3)
	checkArmed(t, e, 0, 11)
	if l, x := e.Do(offline(0)); len(l) != 0 || x != api.ErrState {
		t.Error(l, x)
	}
	checkArmed(t, e, 0, 11)
	mustDo(t, e, advance(1))
	checkFired(t, e, settle(), api.Fired{ID: 2, Mono: 11, Read: 11}, api.Fired{ID: 6, Clock: 1, Mono: 11, Read: 51}, api.Fired{ID: 3, Clock: 2, Mono: 11, Read: 11})
	mustDo(t, e, online(3))
	checkPending(t, e, 3, false, false, false)
	checkArmed(t, e, 3, -1)
}

// P15.1, P15.3: to which processor timers go: the least one above that is online, or the least one at all.
func TestOfflineWhere(t *testing.T) {
	for cpus := 1; cpus <= 6; cpus++ {
		for set := 1; set < 1<<cpus; set++ {
			for cpu := range cpus {
				w, e := both(t, cpus, 1, 1000)
				for id := range cpus {
					w.step(t, e, start(id, id, api.Mono, 50-id))
				}
				for other := range cpus {
					if set>>other&1 == 0 {
						w.step(t, e, offline(other))
					}
				}
				w.check(t, e)
				want := api.OK
				if set>>cpu&1 == 0 {
					want = api.ErrInval
				} else if set == 1<<cpu {
					want = api.ErrState
				}
				if _, x := w.step(t, e, offline(cpu)); x != want {
					t.Error(cpus, set, cpu, x)
				}
				w.check(t, e)
			}
		}
	}
}

// P15.1: one that was raised, latched or kicked, and comes again, is so no more; timers that came from it are
// looked ahead at where they are, but Lazy ones where that one is raised.
func TestOfflineMarks(t *testing.T) {
	w, e := busy(t)
	for _, s := range []api.Step{online(2), offline(0), online(0), irq(3), offline(1), kick(3), startLazy(0, 50, 0, 60), offline(0), settle(), advance(4), settle(), online(1), offline(3), advance(9), settle()} {
		w.step(t, e, s)
		w.check(t, e)
	}
	e = New(2, 1, 1000)
	mustDo(t, e, startLazy(1, 1, api.Mono, 5), advance(5), irq(1), startLazy(0, 2, api.Mono, 9), start(0, 3, api.Mono, 20), offline(0))
	checkPending(t, e, 1, false, true, false)
	checkArmed(t, e, 1, 20)
	checkFired(t, e, softirq(1), api.Fired{ID: 1, CPU: 1, Mono: 5, Read: 5})
	checkArmed(t, e, 1, 9)
	mustDo(t, e, advance(4), irq(1), online(0), offline(1))
	checkPending(t, e, 0, false, false, false)
	checkArmed(t, e, 0, 10)
	mustDo(t, e, online(1))
	checkPending(t, e, 1, false, false, false)
}

// P15.1: one that comes again has its device on, is kicked with the others, and takes timers.
func TestOnline(t *testing.T) {
	w, e := both(t, 3, 1, 1000)
	for _, s := range []api.Step{start(1, 1, 0, 10), offline(1), online(1)} {
		w.step(t, e, s)
		w.check(t, e)
	}
	w.checkWrong(t, e, online(1), api.ErrState)
	checkIDs(t, e, 1)
	checkIDs(t, e, 2, 1)
	for _, s := range []api.Step{start(1, 2, 0, 10), set(9), kick(1), advance(10), irq(1)} {
		if _, x := w.step(t, e, s); x != api.OK {
			t.Error(s, x)
		}
		w.check(t, e)
	}
}

// P15.1: all that waits is done in the order of what waits, each rising by processors, and nothing is left.
func TestSettle(t *testing.T) {
	e := New(3, 1, 1000)
	mustDo(t, e, startLazy(0, 1, api.Mono, 5), start(0, 2, api.Mono, 5), startLazy(1, 3, api.Mono, 5), startLazy(2, 4, api.Mono, 5), start(2, 5, api.Mono, 5),
		advance(5), irq(1), start(1, 6, api.Mono, 7), set(100))
	checkFired(t, e, settle(), api.Fired{ID: 2, Mono: 5, Read: 5}, api.Fired{ID: 5, CPU: 2, Mono: 5, Read: 5},
		api.Fired{ID: 1, Mono: 5, Read: 5}, api.Fired{ID: 3, CPU: 1, Mono: 5, Read: 5}, api.Fired{ID: 4, CPU: 2, Mono: 5, Read: 5})
	for cpu := range 3 {
		checkPending(t, e, cpu, false, false, false)
	}
	checkArmed(t, e, 1, 7)
	checkFired(t, e, settle())
	w, e := busy(t)
	w.step(t, e, settle())
	w.check(t, e)
	for cpu := range 4 {
		checkPending(t, e, cpu, false, false, false)
	}
}

// P15.1: Run tells all that fired, in order, and goes on behind steps that may not be.
func TestRun(t *testing.T) {
	e := New(2, 1, 1000)
	l := []api.Step{start(0, 1, 0, 5), start(0, 1, 0, 5), irq(0), {}, {Kind: 13}, advance(-1), advance(5), irq(0), start(9, 2, 0, 1), start(1, 3, 0, 6), startLazy(1, 4, 0, 5),
		advance(1), softirq(1), settle(), irq(0), offline(0), offline(1), start(1, 5, 0, 7), advance(1), settle()}
	before := slices.Clone(l)
	got := e.Run(l)
	want := []api.Fired{{ID: 1, Mono: 5, Read: 5}, {ID: 3, CPU: 1, Mono: 6, Read: 6}, {ID: 4, CPU: 1, Mono: 6, Read: 6}, {ID: 5, CPU: 1, Mono: 7, Read: 7}}
	if !slices.Equal(got, want) || !slices.Equal(l, before) {
		t.Error(got, want)
	}
	if got = e.Run(nil); len(got) != 0 {
		t.Error(got)
	}
}

// P15.1: an answer shares nothing with the engine, nor one engine with another.
func TestShared(t *testing.T) {
	w, e := busy(t)
	clear(e.Online())
	clear(e.Timers(0))
	clear(e.Timers(1))
	w.check(t, e)
	timers, online := e.Timers(1), e.Online()
	fired, _ := w.step(t, e, settle())
	want := slices.Clone(fired)
	for _, s := range []api.Step{offline(1), start(0, 70, 0, 31), advance(40), settle()} {
		w.step(t, e, s)
	}
	if len(timers) == 0 || timers[0].ID != 8 || !slices.Equal(online, []int{0, 1, 3}) || !slices.Equal(fired, want) {
		t.Error(timers, online, fired)
	}
	clear(fired)
	w.check(t, e)
	both(t, 4, 2, 1000)
}

// P15.1, P15.2, P15.3: all orders of up to four steps, behind some that are done.
func TestAllOrders(t *testing.T) {
	kinds := []api.Step{
		start(0, 1, 0, 3), startLazy(0, 2, 1, 2), start(1, 2, 2, 4), startLazy(1, 3, 0, 3), cancel(2), advance(1), advance(3),
		irq(0), irq(1), softirq(0), softirq(1), kick(0), set(1), set(9), suspend(), resume(), offline(0), offline(1), online(0), settle(),
	}
	all := 1
	for range 4 {
		all *= len(kinds)
	}
	for order := range all {
		w, e := &world{least: 1, greatest: 9, cpus: []seat{{online: true}, {online: true}}}, New(2, 1, 9)
		for _, s := range []api.Step{startLazy(0, 9, 1, 2), start(0, 8, 0, 2), advance(2)} {
			w.step(t, e, s)
		}
		for rest, n := order, 0; n < 4; n++ {
			w.step(t, e, kinds[rest%len(kinds)])
			rest /= len(kinds)
		}
		w.check(t, e)
	}
}

// chance makes steps by chance.
type chance struct {
	*rand.Rand
	cpus, ids, most int
	odd             []int
}

// number is mostly a small one.
func (c *chance) number(most int) int {
	if len(c.odd) > 0 && c.Intn(30) == 0 {
		return c.odd[c.Intn(len(c.odd))]
	}
	return c.Intn(most)
}

// step is one of all kinds; timers are started close to what their clocks tell.
func (c *chance) step(w *world) api.Step {
	s := api.Step{CPU: c.number(c.cpus), N: c.number(c.ids)}
	s.Kind = []int{1, 1, 1, 1, 1, 1, 1, 1, 1, 2, 3, 3, 3, 4, 4, 4, 5, 5, 6, 6, 7, 8, 9, 10, 11, 12}[c.Intn(26)]
	s.Timer = api.Timer{ID: c.Intn(c.ids), Clock: c.Intn(3), Lazy: c.Intn(2) == 0}
	switch {
	case s.Kind == 1:
		s.Timer.Soft = w.reads(s.Timer.Clock) + c.number(c.most) - 2
		s.Timer.Hard = s.Timer.Soft + c.number(9)
		s.Timer.Clock += c.number(40) / 39
	case s.Kind == 3:
		s.N = c.number(c.most)
	case s.Kind == 7:
		s.N = max(w.reads(1)+c.number(4*c.most)-2*c.most, c.number(3))
	case s.Kind >= 8 && s.Kind <= 10 && c.Intn(3) == 0:
		s.Kind = 9
	}
	return s
}

// P15.1, P15.2, P15.3: many steps, one behind the other: whatever was started, and wasn't cancelled, is there or
// fired once.
func TestManySteps(t *testing.T) {
	for round := range 40 {
		g := &chance{Rand: rand.New(rand.NewSource(int64(round))), cpus: 1 + round%16, ids: 20 + 4*round, most: 5 + round*3}
		if round%2 == 1 {
			g.odd = append(edges(), -1, 3, 16)
		}
		w, e := both(t, g.cpus, g.Intn(4), 4+g.Intn(40))
		left := map[int]bool{}
		for range 2000 {
			s := g.step(w)
			fired, x := w.step(t, e, s)
			if x == api.OK && s.Kind == 1 {
				left[s.Timer.ID] = true
			} else if x == api.OK && s.Kind == 2 {
				delete(left, s.N)
			}
			for _, f := range fired {
				if !left[f.ID] {
					t.Fatal("it fired, and wasn't there", s, f)
				}
				delete(left, f.ID)
			}
			w.check(t, e)
		}
		for id := range left {
			if _, ok := e.Where(id); !ok {
				t.Fatal("lost", id)
			}
		}
		if len(left) != e.Len() {
			t.Fatal(len(left), e.Len())
		}
	}
}

// P15.1: where all that waits is done no timer that is due stays on a processor for longer than the least distance,
// and a tick. (One that is handed on to the next processor waits there from then on.)
func TestInTime(t *testing.T) {
	type stay struct{ cpu, from int } // since when it is due there, by Mono
	for round := range 40 {
		g := &chance{Rand: rand.New(rand.NewSource(int64(round))), cpus: 1 + round%5, ids: 60, most: 1 + round}
		w, e := both(t, g.cpus, g.Intn(6), 6+g.Intn(20))
		stays := map[int]stay{}
		for range 2000 {
			before := w.mono
			w.step(t, e, g.step(w))
			tick := w.mono - before
			w.step(t, e, settle())
			w.check(t, e)
			was := stays
			stays = map[int]stay{}
			for _, p := range w.timers {
				if !w.isDue(p) {
					continue
				}
				now := stay{p.cpu, w.mono}
				if o, ok := was[p.ID]; ok && o.cpu == p.cpu {
					now = o
				}
				if stays[p.ID] = now; w.mono-now.from > w.least+tick {
					t.Fatal("too late", p, now, w.mono)
				}
			}
		}
	}
}
