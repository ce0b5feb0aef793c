package engine

import (
	"fusee/api"
	"fusee/mask"
)

// Do does a step.
func (e *Engine) Do(s api.Step) ([]api.Fired, api.Errno) {
	if e == nil {
		return nil, api.ErrArg
	}
	switch s.Kind {
	case api.StepStart:
		return nil, e.start(s.CPU, s.Timer)
	case api.StepCancel:
		return nil, e.cancel(s.N)
	case api.StepAdvance:
		return nil, e.advance(s.N)
	case api.StepIrq:
		return e.irq(s.CPU)
	case api.StepSoftirq:
		return e.softirq(s.CPU)
	case api.StepKick:
		return e.kick(s.CPU)
	case api.StepSet:
		return nil, e.change(func() api.Errno { return e.clock.Set(s.N) })
	case api.StepSuspend:
		return nil, e.change(e.clock.Suspend)
	case api.StepResume:
		return nil, e.change(e.clock.Resume)
	case api.StepOffline:
		return nil, e.leave(s.CPU)
	case api.StepOnline:
		return nil, e.enter(s.CPU)
	case api.StepSettle:
		return e.settle(), api.OK
	}
	return nil, api.ErrArg
}

// Run does all.
func (e *Engine) Run(l []api.Step) []api.Fired {
	var all []api.Fired
	for _, s := range l {
		fired, _ := e.Do(s) // a step that may not be fires nothing, and the next one goes on
		all = append(all, fired...)
	}
	return all
}

// start lets a timer come to a processor.
func (e *Engine) start(cpu int, t api.Timer) api.Errno {
	// All is asked here, as a base would name an ID that is there ahead of a Hard time below the Soft one, and
	// knows neither the IDs nor the number of the others' timers.
	if !e.online.Has(cpu) || t.Clock < 0 || t.Clock >= api.Kinds || t.Hard < t.Soft {
		return api.ErrInval
	}
	if _, there := e.Where(t.ID); there {
		return api.ErrBusy
	}
	if e.Len() >= api.MaxTimers {
		return api.ErrAgain
	}
	e.row[cpu].base.Start(t)
	e.lookAhead(cpu)
	return api.OK
}

// cancel takes a timer out. Its processor doesn't look ahead: an alarm that comes too early does no harm.
func (e *Engine) cancel(id int) api.Errno {
	cpu, there := e.Where(id)
	if !there {
		return api.ErrNone
	}
	e.row[cpu].base.Cancel(id)
	return api.OK
}

// advance lets time go by.
func (e *Engine) advance(n int) api.Errno {
	if err := e.clock.Advance(n); err != api.OK {
		return err
	}
	now, _ := e.clock.Now(api.Mono)
	for _, cpu := range e.online.List() {
		e.row[cpu].device.Pass(now)
	}
	return api.OK
}

// irq takes a processor's interrupt. Timers that are Lazy are only seen to here: they come with its softirq.
func (e *Engine) irq(cpu int) ([]api.Fired, api.Errno) {
	if !e.online.Has(cpu) {
		return nil, api.ErrInval
	}
	p := &e.row[cpu]
	if !p.device.Take() {
		return nil, api.ErrState
	}
	fired := e.fire(cpu, false)
	if p.base.Due(ofClocks(e.clock.Now), true) {
		p.raised = true
	}
	e.lookAhead(cpu)
	return fired, api.OK
}

// softirq lets a processor's Lazy timers fire.
func (e *Engine) softirq(cpu int) ([]api.Fired, api.Errno) {
	if !e.online.Has(cpu) {
		return nil, api.ErrInval
	}
	p := &e.row[cpu]
	if !p.raised {
		return nil, api.ErrState
	}
	p.raised = false
	fired := e.fire(cpu, true)
	e.lookAhead(cpu)
	return fired, api.OK
}

// kick lets a processor look ahead anew. Nothing fires by it: it answers as the other calls that settle makes.
func (e *Engine) kick(cpu int) ([]api.Fired, api.Errno) {
	if !e.online.Has(cpu) {
		return nil, api.ErrInval
	}
	p := &e.row[cpu]
	if !p.kicked {
		return nil, api.ErrState
	}
	p.kicked = false
	e.lookAhead(cpu)
	return nil, api.OK
}

// change lets a call change the clock. Where offsets changed by it, alarms may be set for the wrong times.
func (e *Engine) change(call func() api.Errno) api.Errno {
	before := e.clock.Generation()
	err := call()
	if e.clock.Generation() != before {
		for _, cpu := range e.online.List() {
			e.row[cpu].kicked = true
		}
	}
	return err
}

// leave lets a processor go, and its timers to the next one, which has room for them: there are at most as many in
// all as one of its queues may have.
func (e *Engine) leave(cpu int) api.Errno {
	if !e.online.Has(cpu) {
		return api.ErrInval
	}
	rest := e.online.Without(cpu)
	next, ok := rest.Next(cpu)
	if !ok {
		return api.ErrState
	}
	p := &e.row[cpu]
	for _, t := range p.base.All() {
		p.base.Cancel(t.ID)
		e.row[next].base.Start(t)
	}
	p.device.Off()
	p.raised, p.kicked = false, false
	e.online = rest
	e.lookAhead(next)
	return api.OK
}

// enter lets a processor come again.
func (e *Engine) enter(cpu int) api.Errno {
	if cpu < 0 || cpu >= len(e.row) {
		return api.ErrInval
	}
	if e.online.Has(cpu) {
		return api.ErrState
	}
	e.row[cpu].device.On()
	e.online |= mask.Of(cpu)
	return api.OK
}

// settle does what waits, as often as something can be done. Each call takes what it does away, and raises at most
// what a later one does: it ends.
func (e *Engine) settle() []api.Fired {
	var all []api.Fired
again:
	for {
		for _, do := range []func(cpu int) ([]api.Fired, api.Errno){e.kick, e.irq, e.softirq} {
			for _, cpu := range e.online.List() {
				if fired, err := do(cpu); err == api.OK {
					all = append(all, fired...)
					continue again
				}
			}
		}
		return all
	}
}

// fire takes out all of a processor's timers that are due, of those that are, or aren't, Lazy, and tells them.
func (e *Engine) fire(cpu int, lazy bool) []api.Fired {
	times := ofClocks(e.clock.Now)
	var l []api.Fired
	for _, t := range e.row[cpu].base.Expire(times, lazy) {
		l = append(l, api.Fired{ID: t.ID, Clock: t.Clock, CPU: cpu, Mono: times[api.Mono], Read: times[t.Clock]})
	}
	return l
}

// lookAhead arms a processor's device, if something comes sooner than it is armed. Lazy timers that are due, and
// wait for the softirq, aren't to bring on one interrupt behind the other.
func (e *Engine) lookAhead(cpu int) {
	p := &e.row[cpu]
	now, _ := e.clock.Now(api.Mono)
	p.device.Sooner(now, p.base.Next(ofClocks(e.clock.Offset), !p.raised))
}

// ofClocks is what a call tells of each of the clocks.
func ofClocks(tell func(clock int) (int, bool)) [api.Kinds]int {
	var l [api.Kinds]int
	for clock := range l {
		l[clock], _ = tell(clock)
	}
	return l
}
