package rerun_test

import (
	"math"
	"slices"
	"testing"

	"rerun/api"
	"rerun/rerun"
)

// run: what comes of a run, by a world or by a log.
type run struct {
	trace []api.Event
	final api.Final
}

func (r run) equal(s run) bool { return slices.Equal(r.trace, s.trace) && r.final == s.final }

// replay stops the test at an error.
func replay(t *testing.T, p api.Program, log string, fuel int) run {
	t.Helper()
	trace, final, e := rerun.Replay(p, log, fuel)
	if e != api.OK {
		t.Fatalf("P10: Replay(%+v, %x, %d) answers the error %d", p, log, fuel, e)
	}
	return run{trace, final}
}

// op and its short forms.
func op(code, a, b int) api.Op                    { return api.Op{Code: code, A: a, B: b} }
func does(ops ...api.Op) []api.Op                 { return ops }
func starts(ops ...api.Op) api.Program            { return api.Program{Start: ops} }
func endWith(end int) string                      { return string([]byte{api.End, byte(end)}) }
func waits(files ...int) api.Program              { return waitsOf(len(files), files...) }
func bodyOf(numbers ...byte) string               { return string(numbers) }
func more(list []string, next ...string) []string { return append(slices.Clone(list), next...) }

// waitsOf: a program with so many files, that does nothing but watch some.
func waitsOf(n int, files ...int) api.Program {
	p := api.Program{Files: make([][]api.Op, n)}
	for _, f := range files {
		p.Start = append(p.Start, op(api.Watch, f, 0))
	}
	return p
}

func refused(t *testing.T, p api.Program, log string, want api.Errno) {
	t.Helper()
	for _, fuel := range []int{-1, 0, 100, math.MaxInt} {
		trace, final, e := rerun.Replay(p, log, fuel)
		if e != want || len(trace) != 0 || final != (api.Final{}) {
			t.Errorf("P1, P10: Replay(%+v, %x, %d) = %v, %+v, %d; want nothing, and %d", p, log, fuel, trace, final, e, want)
		}
	}
}

func TestReplayRefuses(t *testing.T) {
	p, w := example()
	log, _, _, _ := rerun.Record(p, w, 100)
	for _, s := range []string{"", "R", "RR", "r", "R1", "RR2", "rr1", "RR\xb1", "RRR1", " RR1", "\x00", "RR2" + log[3:], "x" + log, log[1:], log[3:]} {
		refused(t, p, s, api.ErrLog)
		refused(t, api.Program{}, s, api.ErrLog)
	}
	long := make([]api.Op, 33)
	for want, none := range map[api.Errno]api.Program{
		api.ErrTimers: {Start: long, Timers: make([][]api.Op, 9), Files: make([][]api.Op, 9)},
		api.ErrFiles:  {Start: long, Files: make([][]api.Op, 9)},
		api.ErrOps:    {Start: []api.Op{{}}, Timers: [][]api.Op{long}},
		api.ErrOp:     {Start: []api.Op{{Code: api.Emit, A: 4}}},
	} {
		for _, s := range []string{log, "RR1", "", "RR", "RR2"} {
			refused(t, none, s, want)
		}
	}
}

// TestReplayHead: the first three bytes alone are a log, of no inputs.
func TestReplayHead(t *testing.T) {
	p, _ := example()
	for _, c := range []struct {
		name  string
		p     api.Program
		fuel  int
		final api.Final
	}{
		{"the example", p, 100, api.Final{End: api.Ended, Registers: [4]int64{5}}},
		{"nothing to do", api.Program{}, 0, api.Final{End: api.Idle}},
		{"a stop", starts(op(api.Set, 1, -9), op(api.Stop, 0, 0)), 2, api.Final{End: api.Stopped, Registers: [4]int64{0, -9}}},
		{"no fuel", starts(op(api.Stop, 0, 0)), 0, api.Final{End: api.Spent}},
	} {
		for _, s := range []string{"RR1", "RR1\x02", "RR1\x02\x01\x03", "RR1\x00", "RR1\x02\x01\x03\x00\x00\x00\x00", "RR1RR1"} {
			if got := replay(t, c.p, s, c.fuel); len(got.trace) != 0 || got.final != c.final {
				t.Errorf("P10: %s, by %x: %v, %+v; want %+v", c.name, s, got.trace, got.final, c.final)
			}
		}
	}
}

// TestReplayExample: the document's run, and what becomes of it by other logs.
func TestReplayExample(t *testing.T) {
	p, _ := example()
	all := []string{"\x01\x03", "\x02\x00", "\x01\x06", "\x04\x0a\x03", "\x02\x02\x00\x01"}
	trace := []api.Event{{Kind: api.Fired}, {Kind: api.Told, V: 5}, {Kind: api.Told, A: 1, V: 3}, {Kind: api.Woke, A: 1}}
	final := func(end, clock, heard int, registers ...int64) api.Final {
		f := api.Final{End: end, Clock: clock, Heard: heard}
		copy(f.Registers[:], registers)
		return f
	}
	for _, c := range []struct {
		name   string
		bodies []string
		fuel   int
		events int
		final  api.Final
	}{
		{"as it was", more(all, endWith(api.Idle)), 100, 4, final(api.Idle, 6, 5, 5, 3)},
		{"with just the fuel it needs", more(all, endWith(api.Idle)), 7, 4, final(api.Idle, 6, 5, 5, 3)},
		{"with one unit less", more(all, endWith(api.Idle)), 6, 4, final(api.Diverged, 6, 5, 5, 3)},
		{"the end left out", all, 100, 4, final(api.Idle, 6, 5, 5, 3)},
		{"another end", more(all, endWith(api.Ended)), 100, 4, final(api.Diverged, 6, 5, 5, 3)},
		{"an input where it has ended", more(all, "\x01\x09"), 100, 4, final(api.Diverged, 6, 5, 5, 3)},
		{"an input and the end where it has ended", more(all, "\x01\x09", endWith(api.Idle)), 100, 4, final(api.Diverged, 6, 5, 5, 3)},
		{"without the last batch", more(all[:4], endWith(api.Ended)), 100, 3, final(api.Ended, 6, 4, 5, 3)},
		{"without the last batch and the end", all[:4], 100, 3, final(api.Ended, 6, 4, 5, 3)},
		{"the end where a batch is heard", more(all[:4], endWith(api.Idle)), 100, 3, final(api.Diverged, 6, 4, 5, 3)},
		{"a lot of another bound", more(all[:3], "\x04\x0b\x03", all[4]), 100, 2, final(api.Diverged, 6, 3, 5)},
		{"a batch for a lot", more(all[:3], all[4]), 100, 2, final(api.Diverged, 6, 3, 5)},
		{"a clock for a batch", more(all[:1], all[2:]...), 100, 0, final(api.Diverged, 3, 1, 5)},
		{"a clock that goes back", more(all[:2], "\x01\x02", endWith(api.Backward)), 100, 0, final(api.Backward, 3, 3, 5)},
		{"a clock that goes back, and more behind", more(all[:2], "\x01\x02", "\x02\x00"), 100, 0, final(api.Diverged, 3, 3, 5)},
		{"with fuel 4", more(all[:3], endWith(api.Spent)), 4, 2, final(api.Spent, 6, 3, 5)},
		{"a log of fuel 4, with more", more(all[:3], endWith(api.Spent)), 5, 2, final(api.Diverged, 6, 3, 5)},
		{"a log of fuel 4, with less", more(all[:3], endWith(api.Spent)), 3, 1, final(api.Spent, 6, 3, 5)},
		{"a log of fuel 4, with much less", more(all[:3], endWith(api.Spent)), 2, 0, final(api.Diverged, 0, 0, 5)},
		{"with no fuel", more(all, endWith(api.Idle)), 0, 0, final(api.Diverged, 0, 0)},
	} {
		got := replay(t, p, written(c.bodies...), c.fuel)
		if want := (run{trace[:c.events], c.final}); !got.equal(want) {
			t.Errorf("P10: %s: %+v, want %+v", c.name, got, want)
		}
	}
}

// TestReplayAsks: at each place where an input may be heard each input that
// may be next.
func TestReplayAsks(t *testing.T) {
	clock := bodyOf(api.Clock, 1)
	nexts := []struct {
		body     string
		kind, of int
	}{
		{bodyOf(api.Clock, 1), api.Clock, 0}, {bodyOf(api.Clock, 9), api.Clock, 0},
		{bodyOf(api.Batch, 0), api.Batch, 0}, {bodyOf(api.Batch, 2, 0, 7), api.Batch, 0},
		{bodyOf(api.Pick, 2, 0), api.Pick, 2}, {bodyOf(api.Pick, 2, 1), api.Pick, 2}, {bodyOf(api.Pick, 3, 1), api.Pick, 3}, {bodyOf(api.Pick, 8, 1), api.Pick, 8},
		{bodyOf(api.Lots, 1, 0), api.Lots, 1}, {bodyOf(api.Lots, 2, 1), api.Lots, 2}, {bodyOf(api.Lots, 3, 1), api.Lots, 3}, {bodyOf(api.Lots, 10, 1), api.Lots, 10},
		{endWith(api.Stopped), api.End, 0}, {endWith(api.Idle), api.End, 0}, {endWith(api.Spent), api.End, 0}, {endWith(api.Backward), api.End, 0},
	}
	for _, c := range []struct {
		name     string
		p        api.Program
		ahead    []string
		kind, of int
	}{
		{"a turn's clock", waits(0), nil, api.Clock, 0},
		{"a handler's clock", starts(op(api.Now, 3, 0)), nil, api.Clock, 0},
		{"a batch", waits(0), []string{clock}, api.Batch, 0},
		{"a pick of 2", waits(0, 1), []string{clock, bodyOf(api.Batch, 2, 0, 1)}, api.Pick, 2},
		{"a pick of 2, files that are not watched in the batch", waitsOf(3, 0, 2), []string{clock, bodyOf(api.Batch, 5, 0, 1, 2, 3, 7)}, api.Pick, 2},
		{"a pick of 2 behind one of 3", waits(0, 1, 2), []string{clock, bodyOf(api.Batch, 3, 0, 1, 2), bodyOf(api.Pick, 3, 1)}, api.Pick, 2},
		{"a pick of 3", waits(0, 1, 2), []string{clock, bodyOf(api.Batch, 3, 0, 1, 2)}, api.Pick, 3},
		{"a pick of 8", waits(0, 1, 2, 3, 4, 5, 6, 7), []string{clock, bodyOf(api.Batch, 8, 0, 1, 2, 3, 4, 5, 6, 7)}, api.Pick, 8},
		{"a lot below 1", starts(op(api.Lot, 0, 1)), nil, api.Lots, 1},
		{"a lot below 2", starts(op(api.Lot, 0, 2)), nil, api.Lots, 2},
		{"a lot below 10 behind one below 2", starts(op(api.Lot, 0, 2), op(api.Lot, 0, 10)), []string{bodyOf(api.Lots, 2, 0)}, api.Lots, 10},
	} {
		for _, next := range nexts {
			got := replay(t, c.p, written(more(c.ahead, next.body)...), 100).final
			if next.kind == c.kind && next.of == c.of {
				if got.Heard != len(c.ahead)+1 || got.End == api.Diverged {
					t.Errorf("P10: %s, %x is next: %+v: it is not heard", c.name, next.body, got)
				}
			} else if got.Heard != len(c.ahead) || got.End != api.Diverged {
				t.Errorf("P10: %s, %x is next: %+v, want Diverged, and %d heard", c.name, next.body, got, len(c.ahead))
			}
		}
		for _, log := range []string{written(c.ahead...), written(more(c.ahead, endWith(api.Ended))...), written(more(c.ahead, "\x06")...), written(c.ahead...) + "\x02\x01"} {
			if got := replay(t, c.p, log, 100).final; got.Heard != len(c.ahead) || got.End != api.Ended {
				t.Errorf("P10: %s, by %x: %+v, want Ended, and %d heard", c.name, log, got, len(c.ahead))
			}
		}
	}
}

// TestReplayEnds: each end that a run may have by itself, and each thing that
// the log may have behind it.
func TestReplayEnds(t *testing.T) {
	lot := op(api.Lot, 0, 10)
	for own, c := range map[int]struct {
		p     api.Program
		fuel  int
		ahead []string
		clock int
		first int64
	}{
		api.Stopped:  {starts(lot, op(api.Stop, 0, 0), lot), 2, []string{"\x04\x0a\x03"}, 0, 3},
		api.Idle:     {starts(lot), 1, []string{"\x04\x0a\x03"}, 0, 3},
		api.Spent:    {starts(lot, lot), 1, []string{"\x04\x0a\x03"}, 0, 3},
		api.Backward: {starts(op(api.Now, 0, 0), op(api.Now, 0, 0), op(api.Now, 0, 0)), 9, []string{"\x01\x07", "\x01\x06"}, 7, 7},
	} {
		final := api.Final{End: own, Registers: [4]int64{c.first}, Clock: c.clock, Heard: len(c.ahead)}
		same := func(want api.Final, log string) {
			t.Helper()
			if got := replay(t, c.p, log, c.fuel); len(got.trace) != 0 || got.final != want {
				t.Errorf("P10: by %x: %v, %+v, want %+v", log, got.trace, got.final, want)
			}
		}
		bare := written(c.ahead...)
		for _, nothing := range []string{"", "\x02", "\x00", "\xff\xff", frame("\x06\x01"), frame("\x05\x06"), frame(endWith(own))[:6], "\x02\x05\x01\x00\x00\x00\x00"} {
			same(final, bare+nothing)
		}
		for _, behind := range []string{"", "x", frame("\x01\x09"), frame(endWith(api.Ended))} {
			same(final, bare+frame(endWith(own))+behind)
		}
		final.End = api.Diverged
		for with := api.Stopped; with <= api.Ended; with++ {
			if with != own {
				same(final, bare+frame(endWith(with)))
				same(final, bare+frame(endWith(with))+frame(endWith(own)))
			}
		}
		for _, body := range []string{"\x01\x09", "\x01\x00", "\x02\x00", "\x02\x01\x00", "\x03\x02\x01", "\x04\x0a\x03", bodyOf(api.Clock, byte(own)), bodyOf(api.Lots, 10, byte(own))} {
			same(final, bare+frame(body))
			same(final, bare+frame(body)+frame(endWith(own)))
		}
	}
}

// TestReplayPicks: the pick is the log's, and the file that is left alone is
// taken without one.
func TestReplayPicks(t *testing.T) {
	p := waits(0, 1, 2)
	p.Files[2] = does(op(api.Ignore, 0, 0))
	woke := func(f int) api.Event { return api.Event{Kind: api.Woke, A: f} }
	log := written("\x01\x05", "\x02\x03\x00\x01\x02", "\x03\x03\x02", "\x03\x02\x01", "\x01\x05", "\x02\x04\x00\x01\x02\x05", "\x03\x02\x00", "\x05\x05")
	want := run{[]api.Event{woke(2), woke(1), woke(1), woke(2)}, api.Final{End: api.Ended, Clock: 5, Heard: 7}}
	if got := replay(t, p, log, 100); !got.equal(want) {
		t.Errorf("P10: %+v, want %+v", got, want)
	}
}

// TestReplayFuel: fuel below 0 is none, and above MaxFuel is MaxFuel.
func TestReplayFuel(t *testing.T) {
	busy := make([]api.Op, 32)
	for i := range busy {
		busy[i] = op(api.Set, 0, i)
	}
	busy[31] = op(api.Arm, 0, 1)
	p := api.Program{Start: does(op(api.Arm, 0, 0)), Timers: [][]api.Op{busy}}
	w := api.World{Clocks: make([]int, 400), Batches: make([][]int, 400)}
	log, trace, final, _ := rerun.Record(p, w, math.MaxInt)
	if final.End != api.Spent || len(trace) != 157 {
		t.Fatalf("P5: %d events, %+v", len(trace), final)
	}
	for _, fuel := range []int{api.MaxFuel, api.MaxFuel + 1, math.MaxInt} {
		if got := replay(t, p, log, fuel); !got.equal(run{trace, final}) {
			t.Errorf("P5, P10: fuel %d: %d events, %+v, want %+v", fuel, len(got.trace), got.final, final)
		}
	}
	for _, fuel := range []int{0, -1, math.MinInt} {
		for log, end := range map[string]int{log: api.Diverged, "RR1": api.Spent, written("\x05\x03"): api.Spent, written("\x05\x05"): api.Diverged} {
			if got := replay(t, p, log, fuel); !got.equal(run{nil, api.Final{End: end}}) {
				t.Errorf("P5, P10: fuel %d: %+v, want the end %d", fuel, got, end)
			}
		}
	}
}
