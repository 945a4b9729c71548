package loop

import (
	"rerun/api"
	"rerun/code"
)

// actions: what an operation does, by its code. It has nothing for 0, which
// is no code.
func actions() [code.Codes]func(*run, api.Op) {
	return [code.Codes]func(*run, api.Op){
		code.Set:    (*run).set,
		code.Add:    (*run).add,
		code.Arm:    (*run).arm,
		code.Cancel: (*run).cancel,
		code.Watch:  (*run).watch,
		code.Ignore: (*run).ignore,
		code.Now:    (*run).now,
		code.Lot:    (*run).lot,
		code.Emit:   (*run).emit,
		code.Skip:   (*run).skip,
		code.Stop:   (*run).stop,
	}
}

func (r *run) set(op api.Op) { r.registers[op.A] = int64(op.B) }

func (r *run) add(op api.Op) { r.registers[op.A] += r.registers[op.B] }

// arm holds the register against the room that is left below MaxClock, because
// the sum of the two may not fit into 64 bits.
func (r *run) arm(op api.Op) {
	room := int64(api.MaxClock - r.clock)
	more := min(max(r.registers[op.B], 0), room)
	r.armings++
	r.timers[op.A] = timer{armed: true, at: r.clock + int(more), arming: r.armings, number: op.A}
}

func (r *run) cancel(op api.Op) { r.timers[op.A].armed = false }

func (r *run) watch(op api.Op) { r.watched[op.A] = true }

func (r *run) ignore(op api.Op) { r.watched[op.A] = false }

func (r *run) now(op api.Op) {
	if r.hearClock() {
		r.registers[op.A] = int64(r.clock)
	}
}

func (r *run) lot(op api.Op) {
	if in, ok := r.hear(code.HearLot, op.B); ok {
		r.registers[op.A] = int64(in.N)
	}
}

func (r *run) emit(op api.Op) { r.tell(code.Told, op.A, r.registers[op.A]) }

func (r *run) skip(op api.Op) {
	if r.registers[op.A] == int64(op.B) {
		r.next++
	}
}

func (r *run) stop(api.Op) { r.end = api.Stopped }
