// Package loop runs a program's handlers by the inputs that it hears.
package loop

import (
	"cmp"
	"slices"

	"rerun/api"
	"rerun/code"
)

// Source is whatever inputs are heard from. It answers the next input of the
// kind (of so many files for a pick, below that bound for a lot) and 0; or
// the end with which the run ends, because that input is not to be had.
type Source interface {
	Hear(kind, of int) (api.Input, int)
}

// running: the run has no end yet.
const running = 0

// timer: arming is unlike that of every other arming of the run, so it tells
// the order in which timers were armed, and one armed anew from one that stayed.
type timer struct {
	armed  bool
	at     int
	arming int
	number int
}

type run struct {
	program   api.Program
	source    Source
	actions   [code.Codes]func(*run, api.Op)
	fuel      int
	next      int // the operation of the handler that comes next
	registers [api.Registers]int64
	clock     int
	timers    [api.MaxTimers]timer
	armings   int
	watched   [api.MaxFiles]bool
	trace     []api.Event
	heard     int
	end       int
}

// Run runs p, which must be a program by Check, and answers the trace and how
// it ended.
func Run(p api.Program, from Source, fuel int) ([]api.Event, api.Final) {
	r := &run{program: p, source: from, actions: actions(), fuel: min(max(fuel, 0), api.MaxFuel)}
	r.handle(p.Start)
	for r.end == running {
		r.turn()
	}
	return r.trace, api.Final{End: r.end, Registers: r.registers, Clock: r.clock, Heard: r.heard}
}

func (r *run) turn() {
	if r.idle() {
		r.end = api.Idle
		return
	}
	if !r.hearClock() {
		return
	}
	r.fireDue()
	if r.end != running {
		return
	}
	r.wakeReady()
}

func (r *run) idle() bool {
	for _, t := range r.timers {
		if t.armed {
			return false
		}
	}
	return !slices.Contains(r.watched[:], true)
}

func (r *run) fireDue() {
	for _, d := range r.due() {
		if r.end != running {
			return
		}
		// A handler ahead of this one may have cancelled it or armed it anew.
		if r.timers[d.number] != d {
			continue
		}
		r.timers[d.number].armed = false
		r.tell(code.Fired, d.number, 0)
		r.handle(r.program.Timers[d.number])
	}
}

// due answers copies, by which it can be told later what has changed.
func (r *run) due() []timer {
	var out []timer
	for _, t := range r.timers {
		if t.armed && t.at <= r.clock {
			out = append(out, t)
		}
	}
	slices.SortFunc(out, func(a, b timer) int {
		return cmp.Or(cmp.Compare(a.at, b.at), cmp.Compare(a.arming, b.arming))
	})
	return out
}

func (r *run) wakeReady() {
	batch, ok := r.hear(code.HearBatch, 0)
	if !ok {
		return
	}
	ready := r.ready(batch.Files)
	for len(ready) > 0 && r.end == running {
		at, ok := r.pick(len(ready))
		if !ok {
			return
		}
		file := ready[at]
		ready = slices.Delete(ready, at, at+1)
		if r.watched[file] {
			r.tell(code.Woke, file, 0)
			r.handle(r.program.Files[file])
		}
	}
}

// ready needs not ask which files there are: no other can be watched.
func (r *run) ready(batch []int) []int {
	var out []int
	for _, f := range batch {
		if r.watched[f] {
			out = append(out, f)
		}
	}
	return out
}

// pick hears nothing where there is no choice.
func (r *run) pick(of int) (int, bool) {
	if of == 1 {
		return 0, true
	}
	in, ok := r.hear(code.HearPick, of)
	return in.N, ok
}

func (r *run) handle(ops []api.Op) {
	r.next = 0
	for r.next < len(ops) && r.end == running {
		if r.fuel == 0 {
			r.end = api.Spent
			return
		}
		r.fuel--
		op := ops[r.next]
		r.next++
		r.actions[op.Code](r, op)
	}
}

func (r *run) hear(kind, of int) (api.Input, bool) {
	in, end := r.source.Hear(kind, of)
	if end != running {
		r.end = end
		return api.Input{}, false
	}
	r.heard++
	return in, true
}

// hearClock leaves the loop's time as it was if the clock goes back.
func (r *run) hearClock() bool {
	in, ok := r.hear(code.HearClock, 0)
	if !ok {
		return false
	}
	if in.N < r.clock {
		r.end = api.Backward
		return false
	}
	r.clock = in.N
	return true
}

func (r *run) tell(kind, a int, v int64) {
	r.trace = append(r.trace, api.Event{Kind: kind, A: a, V: v})
}
