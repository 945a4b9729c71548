package rerun_test

import (
	"math"
	"math/rand/v2"
	"reflect"
	"slices"
	"testing"

	"rerun/api"
	"rerun/rerun"
)

// dice makes arguments, the same ones each time the tests are run.
type dice struct{ *rand.Rand }

func newDice(seed uint64) dice { return dice{rand.New(rand.NewPCG(seed, 1))} }

// number: mostly a small one, now and then one from the rims.
func (d dice) number() int {
	rims := []int{math.MinInt, math.MinInt + 1, -1, 0, api.MaxLot, api.MaxLot + 1, api.MaxClock - 1, api.MaxClock, api.MaxClock + 1, math.MaxInt}
	if d.IntN(6) == 0 {
		return rims[d.IntN(len(rims))]
	}
	return d.IntN(12) - 2
}

func (d dice) numbers(most int) []int {
	out := make([]int, d.IntN(most+1))
	for i := range out {
		out[i] = d.number()
	}
	return out
}

// rising: times of which few go back.
func (d dice) rising(most int) []int {
	out := make([]int, d.IntN(most+1))
	at := 0
	for i := range out {
		at += d.IntN(4)
		out[i] = at
		if d.IntN(40) == 0 {
			out[i] = d.number()
		}
	}
	return out
}

func (d dice) world() api.World {
	w := api.World{Clocks: d.rising(60), Batches: make([][]int, d.IntN(60)), Picks: d.numbers(60), Lots: d.numbers(60)}
	for i := range w.Batches {
		w.Batches[i] = d.numbers(12)
	}
	return w
}

// handlers: as many as asked for, each made by handler.
func (d dice) handlers(n int, handler func() []api.Op) [][]api.Op {
	out := make([][]api.Op, n)
	for i := range out {
		out[i] = handler()
	}
	return out
}

// wild: a program that is seldom one.
func (d dice) wild() api.Program {
	handler := func() []api.Op {
		ops := make([]api.Op, d.IntN(5))
		if d.IntN(40) == 0 {
			ops = make([]api.Op, 33)
		}
		for i := range ops {
			ops[i] = api.Op{Code: d.number(), A: d.number(), B: d.number()}
		}
		return ops
	}
	return api.Program{Start: handler(), Timers: d.handlers(d.IntN(11), handler), Files: d.handlers(d.IntN(11), handler)}
}

// right: a program that is one.
func (d dice) right() api.Program {
	timers, files := 1+d.IntN(8), 1+d.IntN(8)
	operation := func() api.Op {
		op := api.Op{Code: 1 + d.IntN(10), A: d.IntN(4), B: d.number()}
		switch op.Code {
		case api.Add:
			op.B = d.IntN(4)
		case api.Arm:
			op.A, op.B = d.IntN(timers), d.IntN(4)
		case api.Cancel:
			op.A = d.IntN(timers)
		case api.Watch, api.Ignore:
			op.A = d.IntN(files)
		case api.Lot:
			op.B = 1 + d.IntN(300)
		}
		if d.IntN(80) == 0 {
			op = api.Op{Code: api.Stop, A: d.number(), B: d.number()}
		}
		return op
	}
	handler := func() []api.Op {
		ops := make([]api.Op, d.IntN(8))
		for i := range ops {
			ops[i] = operation()
		}
		return ops
	}
	p := api.Program{Start: handler(), Timers: d.handlers(timers, handler), Files: d.handlers(files, handler)}
	p.Start = append(p.Start, api.Op{Code: api.Arm, A: 0, B: 0}, api.Op{Code: api.Watch, A: 0})
	return p
}

// TestAnything: no call panics, and beside an error there is nothing.
func TestAnything(t *testing.T) {
	d := newDice(1)
	for range 20000 {
		p, w := d.wild(), d.world()
		log, trace, final, e := rerun.Record(p, w, d.number())
		if e != rerun.Check(p) {
			t.Fatalf("P7: Record answers %d, Check %d: %+v", e, rerun.Check(p), p)
		}
		if e != api.OK && (log != "" || len(trace) != 0 || final != (api.Final{})) {
			t.Fatalf("P1: beside the error %d: %q, %v, %+v", e, log, trace, final)
		}
	}
}

// bodies takes a log apart, and answers nil if it is none.
func bodies(log string) []string {
	if len(log) < 3 || log[:3] != "RR1" {
		return nil
	}
	var out []string
	for log = log[3:]; len(log) > 0; {
		n := int(log[0])
		if n > 127 || len(log) < n+5 || frame(log[1:1+n]) != log[:n+5] {
			return nil
		}
		out = append(out, log[1:1+n])
		log = log[n+5:]
	}
	return out
}

// TestLogAgreesWithFinal: as many records as were heard and one for the end.
func TestLogAgreesWithFinal(t *testing.T) {
	d := newDice(2)
	var ends [6]int
	for range 5000 {
		p, w := d.right(), d.world()
		log, trace, final, e := rerun.Record(p, w, 1+d.IntN(200))
		if e != api.OK {
			t.Fatalf("P3: %d: %+v", e, p)
		}
		list := bodies(log)
		if len(list) != final.Heard+1 || list[final.Heard] != string([]byte{api.End, byte(final.End)}) {
			t.Fatalf("P7, P8: %x of %+v", log, final)
		}
		for _, b := range list[:final.Heard] {
			if b[0] < api.Clock || b[0] > api.Lots {
				t.Fatalf("P8: a body %x ahead of the end", b)
			}
		}
		for _, v := range trace {
			if v.Kind != api.Told && v.V != 0 {
				t.Fatalf("P4: %+v", v)
			}
		}
		ends[final.End]++
	}
	for end := api.Stopped; end <= api.Ended; end++ {
		if ends[end] == 0 {
			t.Errorf("no run ended with %d: the test has grown blind", end)
		}
	}
}

// TestLongWorld: a run goes on for as long as there are inputs, and no longer.
func TestLongWorld(t *testing.T) {
	const many = 200000
	p := api.Program{Start: []api.Op{{Code: api.Watch}}, Files: [][]api.Op{nil}}
	w := api.World{Clocks: make([]int, many+1), Batches: make([][]int, many)}
	log, trace, final, e := rerun.Record(p, w, math.MaxInt)
	if e != api.OK || len(trace) != 0 || final != (api.Final{End: api.Ended, Heard: 2*many + 1}) || len(log) != 3+7*(2*many+2) {
		t.Errorf("P1: %d bytes, %d events, %+v, %d", len(log), len(trace), final, e)
	}
}

// roomy: the same list with something behind it, which must stay.
func roomy[T any](list []T, behind T) []T {
	out := append(slices.Clone(list), behind, behind, behind)
	return out[:len(list)]
}

func roomyArguments(p api.Program, w api.World) (api.Program, api.World) {
	op := api.Op{Code: 77, A: 77, B: 77}
	lists := func(from [][]api.Op) [][]api.Op {
		out := roomy(from, []api.Op{op})
		for i := range out {
			out[i] = roomy(out[i], op)
		}
		return out
	}
	p = api.Program{Start: roomy(p.Start, op), Timers: lists(p.Timers), Files: lists(p.Files)}
	w = api.World{Clocks: roomy(w.Clocks, 77), Batches: roomy(w.Batches, []int{77}), Picks: roomy(w.Picks, 77), Lots: roomy(w.Lots, 77)}
	for i := range w.Batches {
		w.Batches[i] = roomy(w.Batches[i], 77)
	}
	return p, w
}

// whole: all that lies in and behind the lists.
func whole(p api.Program, w api.World) []any {
	out := []any{p.Start[:cap(p.Start)], w.Clocks[:cap(w.Clocks)], w.Picks[:cap(w.Picks)], w.Lots[:cap(w.Lots)]}
	for _, lists := range [][][]api.Op{p.Timers[:cap(p.Timers)], p.Files[:cap(p.Files)]} {
		for _, l := range lists {
			out = append(out, l[:cap(l)])
		}
	}
	for _, l := range w.Batches[:cap(w.Batches)] {
		out = append(out, l[:cap(l)])
	}
	return out
}

func TestArgumentsStay(t *testing.T) {
	d := newDice(3)
	for range 2000 {
		p, w := d.right(), d.world()
		asked, heard := roomyArguments(p, w)
		before, beforeWorld := roomyArguments(p, w)
		rerun.Check(asked)
		rerun.Record(asked, heard, 500)
		if !reflect.DeepEqual(asked, before) || !reflect.DeepEqual(heard, beforeWorld) || !reflect.DeepEqual(whole(asked, heard), whole(before, beforeWorld)) {
			t.Fatalf("P2: written into: %+v, %+v", asked, heard)
		}
	}
}

// answer: what Record answers, to be held against another.
type answer struct {
	log   string
	trace []api.Event
	final api.Final
}

func record(p api.Program, w api.World) answer {
	log, trace, final, _ := rerun.Record(p, w, 500)
	return answer{log, trace, final}
}

func (a answer) equal(b answer) bool {
	return a.log == b.log && slices.Equal(a.trace, b.trace) && a.final == b.final
}

// TestAnswersAreApart: an answer is the caller's, to its last spare room, and
// hangs neither on earlier calls nor on what becomes of the arguments.
func TestAnswersAreApart(t *testing.T) {
	d := newDice(4)
	for range 1000 {
		p, w := d.right(), d.world()
		first, second := record(p, w), record(p, w)
		if !first.equal(second) {
			t.Fatalf("P2: %+v, then %+v", first, second)
		}
		kept := answer{first.log, slices.Clone(first.trace), first.final}
		spoil(second.trace)
		record(d.right(), d.world())
		if third := record(p, w); !third.equal(kept) || !first.equal(kept) {
			t.Fatalf("P2: %+v became %+v, or %+v", kept, first, third)
		}
		for i := range w.Batches {
			clear(w.Batches[i])
		}
		clear(w.Clocks)
		clear(p.Start)
		if !first.equal(kept) {
			t.Fatalf("P2: %+v became %+v with its arguments", kept, first)
		}
	}
}

func spoil(trace []api.Event) {
	all := trace[:cap(trace)]
	for i := range all {
		all[i] = api.Event{Kind: 9, A: 9, V: 9}
	}
}

// TestAtOnce: calls at the same time do not disturb each other.
func TestAtOnce(t *testing.T) {
	d := newDice(5)
	p, w := d.right(), d.world()
	want := record(p, w)
	got := make(chan answer)
	for range 16 {
		go func() { got <- record(p, w) }()
	}
	for range 16 {
		if a := <-got; !a.equal(want) {
			t.Errorf("P2: %+v, want %+v", a, want)
		}
	}
}
