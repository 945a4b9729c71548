package rerun_test

import (
	"reflect"
	"slices"
	"strings"
	"testing"

	"rerun/api"
	"rerun/rerun"
)

// worldOf: a world that says what these inputs say.
func worldOf(inputs []api.Input) api.World {
	var w api.World
	for _, in := range inputs {
		switch in.Kind {
		case api.Clock:
			w.Clocks = append(w.Clocks, in.N)
		case api.Batch:
			w.Batches = append(w.Batches, in.Files)
		case api.Pick:
			w.Picks = append(w.Picks, in.N)
		case api.Lots:
			w.Lots = append(w.Lots, in.N)
		}
	}
	return w
}

// byWorld is P10 once more, by means of Record, to hold Replay against. A world
// knows no order between its lists; so a run by all that the log says shows
// how far it asks in the log's order, and a run by just that much where it is
// then, and with what it ends there.
func byWorld(p api.Program, log string, fuel int) run {
	inputs, _, _ := plainly(log)
	wrote, _, _, _ := rerun.Record(p, worldOf(inputs), fuel)
	asked, _, _ := plainly(wrote)
	same := 0
	for same < min(len(inputs), len(asked)) && inputs[same].Kind != api.End && sameInput(inputs[same], asked[same]) {
		same++
	}
	_, trace, final, _ := rerun.Record(p, worldOf(inputs[:same]), fuel)
	if same < len(inputs) && !sameInput(inputs[same], api.Input{Kind: api.End, N: final.End}) {
		final.End = api.Diverged
	}
	return run{trace, final}
}

// replaysAs: Replay answers as byWorld does, and this end; it stops the test
// if not.
func replaysAs(t *testing.T, p api.Program, log string, fuel int) int {
	t.Helper()
	if !strings.HasPrefix(log, "RR1") {
		if trace, final, e := rerun.Replay(p, log, fuel); e != api.ErrLog || len(trace) != 0 || final != (api.Final{}) {
			t.Fatalf("P10: Replay(%+v, %x, %d) = %v, %+v, %d; want ErrLog", p, log, fuel, trace, final, e)
		}
		return 0
	}
	got, want := replay(t, p, log, fuel), byWorld(p, log, fuel)
	if !got.equal(want) {
		t.Fatalf("P10: Replay(%+v, %x, %d) = %+v; want %+v", p, log, fuel, got, want)
	}
	return got.final.End
}

// seen counts the ends of runs, to see that a test looks at all of them.
type seen [api.Diverged + 1]int

func (s seen) enough(t *testing.T, least int, ends ...int) {
	t.Helper()
	for _, end := range ends {
		if s[end] < least {
			t.Errorf("the end %d came %d times: the test has grown blind", end, s[end])
		}
	}
}

// TestRecordedIsHadAgain: the same trace, the same Final.
func TestRecordedIsHadAgain(t *testing.T) {
	d := newDice(11)
	var ends seen
	for range 5000 {
		p, fuel := d.right(), d.IntN(200)
		log, trace, final, _ := rerun.Record(p, d.world(), fuel)
		if got := replay(t, p, log, fuel); !got.equal(run{trace, final}) {
			t.Fatalf("P11: %+v by %x: %+v; want %v, %+v", p, log, got, trace, final)
		}
		ends[final.End]++
	}
	ends.enough(t, 20, api.Stopped, api.Idle, api.Spent, api.Backward, api.Ended)
}

// TestReplayOtherFuel: with more of it or less the run is the log's as far as
// it goes.
func TestReplayOtherFuel(t *testing.T) {
	d := newDice(12)
	var less, more seen
	for range 300 {
		p, fuel := d.right(), 1+d.IntN(60)
		log, trace, final, _ := rerun.Record(p, d.world(), fuel)
		for other := range fuel + 10 {
			got := replay(t, p, log, other)
			if other < fuel {
				less[got.final.End]++
				if len(got.trace) > len(trace) || !slices.Equal(got.trace, trace[:len(got.trace)]) || got.final.Heard > final.Heard {
					t.Fatalf("P10: fuel %d for %d: %+v; want a beginning of %v", other, fuel, got, trace)
				}
			}
			if other >= fuel {
				more[got.final.End]++
				if len(got.trace) < len(trace) || !slices.Equal(trace, got.trace[:len(trace)]) || got.final.Heard != final.Heard {
					t.Fatalf("P10: fuel %d for %d: %+v; want %v, and what follows without an input", other, fuel, got, trace)
				}
				if final.End != api.Spent && got.final != final {
					t.Fatalf("P10: fuel %d for %d: %+v, want %+v", other, fuel, got.final, final)
				}
			}
			replaysAs(t, p, log, other)
		}
	}
	less.enough(t, 20, api.Spent, api.Diverged)
	more.enough(t, 20, api.Stopped, api.Idle, api.Spent, api.Backward, api.Ended, api.Diverged)
}

// places answers where the records of a log begin, and where the last ends.
func places(log string) []int {
	out := []int{3}
	for _, b := range bodies(log) {
		out = append(out, out[len(out)-1]+len(b)+5)
	}
	return out
}

// TestReplayBeginnings: the first bytes of a log, however many, give the
// beginning of the run: Ended behind the inputs that they have, or as it ended
// if they have all.
func TestReplayBeginnings(t *testing.T) {
	d := newDice(13)
	var ends seen
	for range 150 {
		p, w, fuel := d.right(), d.world(), 1+d.IntN(60)
		log, trace, final, _ := rerun.Record(p, w, fuel)
		starts := places(log)
		has := 0
		for cut := 3; cut <= len(log); cut++ {
			for has < final.Heard && starts[has+1] <= cut {
				has++
			}
			got := replay(t, p, log[:cut], fuel)
			if has == final.Heard && !got.equal(run{trace, final}) {
				t.Fatalf("P11: all inputs, in %d of %d bytes: %+v; want %v, %+v", cut, len(log), got, trace, final)
			}
			if has < final.Heard && (got.final.End != api.Ended || got.final.Heard != has) {
				t.Fatalf("P11: %d inputs, in %d of %d bytes: %+v", has, cut, len(log), got.final)
			}
			if len(got.trace) > len(trace) || !slices.Equal(got.trace, trace[:len(got.trace)]) {
				t.Fatalf("P11: the first %d of %d bytes: %v is no beginning of %v", cut, len(log), got.trace, trace)
			}
			replaysAs(t, p, log[:cut], fuel)
		}
		for cut := range 3 {
			replaysAs(t, p, log[:cut], fuel)
		}
		ends[final.End]++
	}
	ends.enough(t, 3, api.Stopped, api.Idle, api.Spent, api.Backward, api.Ended)
}

// TestReplayTurnedBits: the run is that of the log torn ahead of the record
// with the bit.
func TestReplayTurnedBits(t *testing.T) {
	d := newDice(14)
	for range 30 {
		p, fuel := d.right(), 1+d.IntN(60)
		log, _, _, _ := rerun.Record(p, d.world(), fuel)
		starts := places(log)
		record := 0
		for at := range len(log) {
			if at >= starts[record+1] {
				record++
			}
			for bit := range 8 {
				turned := []byte(log)
				turned[at] ^= 1 << bit
				if at < 3 {
					replaysAs(t, p, string(turned), fuel)
					continue
				}
				got, want := replay(t, p, string(turned), fuel), replay(t, p, log[:starts[record]], fuel)
				if !got.equal(want) {
					t.Fatalf("P11: bit %d of byte %d of %x: %+v; want %+v", bit, at, log, got, want)
				}
			}
		}
	}
}

// otherwise: the bodies of a log with something changed that leaves each of
// them a body.
func (d dice) otherwise(list []string) []string {
	some := []string{"\x01\x00", "\x01\x03", "\x01\x09", "\x02\x00", "\x02\x01\x00", "\x02\x03\x00\x01\x02", "\x03\x02\x00", "\x03\x02\x01", "\x03\x03\x01", "\x04\x02\x00", "\x04\x0a\x05", "\x05\x01", "\x05\x02", "\x05\x03", "\x05\x04", "\x05\x05"}
	at := d.IntN(len(list))
	if d.IntN(3) == 0 {
		at = len(list) - 1
	}
	switch body := some[d.IntN(len(some))]; d.IntN(4) {
	case 0:
		list = slices.Insert(slices.Clone(list), at, body)
	case 1:
		list = slices.Delete(slices.Clone(list), at, at+1)
	case 2:
		list = slices.Clone(list)
		list[at] = body
	case 3:
		list = append(slices.Clone(list[:at]), body)
	}
	return list
}

// changed: the same program but for one of its operations.
func (d dice) changed(p api.Program) api.Program {
	q := api.Program{Start: p.Start, Timers: slices.Clone(p.Timers), Files: slices.Clone(p.Files)}
	lists := []*[]api.Op{&q.Start}
	for _, handlers := range [][][]api.Op{q.Timers, q.Files} {
		for i := range handlers {
			if len(handlers[i]) > 0 {
				lists = append(lists, &handlers[i])
			}
		}
	}
	others := does(op(api.Now, 1, 0), op(api.Lot, 1, 1+d.IntN(9)), op(api.Ignore, 0, 0), op(api.Cancel, 0, 0), op(api.Stop, 0, 0), op(api.Set, 0, 1), op(api.Watch, 0, 0))
	list := lists[d.IntN(len(lists))]
	*list = slices.Clone(*list)
	(*list)[d.IntN(len(*list))] = others[d.IntN(len(others))]
	return q
}

// TestReplayOtherLogs: logs of another run, of another program, changed ones.
func TestReplayOtherLogs(t *testing.T) {
	d := newDice(15)
	var ends, other seen
	for range 15000 {
		p, w, fuel := d.right(), d.world(), 1+d.IntN(80)
		log, _, _, _ := rerun.Record(p, w, fuel)
		list := d.otherwise(bodies(log))
		ends[replaysAs(t, p, written(list...), fuel)]++
		replaysAs(t, p, written(d.otherwise(append(list, "\x05\x02"))...), fuel)
		replaysAs(t, p, d.spoilt(log), fuel)
		other[replaysAs(t, d.changed(p), log, fuel)]++
		other[replaysAs(t, d.right(), log, fuel)]++
	}
	ends.enough(t, 20, api.Stopped, api.Idle, api.Spent, api.Backward, api.Ended, api.Diverged)
	other.enough(t, 20, api.Stopped, api.Idle, api.Spent, api.Ended, api.Diverged)
}

// TestReplayAnything: no program, no bytes and no fuel make it panic, and
// beside an error there is nothing.
func TestReplayAnything(t *testing.T) {
	d := newDice(16)
	for range 10000 {
		p, q := d.right(), d.wild()
		for _, log := range []string{d.bytes(12), "RR1" + d.bytes(60), written(d.body(), d.body(), d.body(), d.body())} {
			replaysAs(t, p, log, d.number())
			want := rerun.Check(q)
			if want == api.OK {
				replaysAs(t, q, log, d.number())
				continue
			}
			if trace, final, e := rerun.Replay(q, log, d.number()); e != want || len(trace) != 0 || final != (api.Final{}) {
				t.Fatalf("P1, P10: Replay(%+v, %x) = %v, %+v, %d; want nothing, and %d", q, log, trace, final, e, want)
			}
		}
	}
}

// FuzzReplay takes the seeds alone, unless go test is told to fuzz.
func FuzzReplay(f *testing.F) {
	p, w := example()
	log, _, _, _ := rerun.Record(p, w, 100)
	for i, s := range []string{"", "RR1", log, log + "x", log[:20], written("\x01\x03", "\x02\x01\x07")} {
		f.Add(uint64(i), s, 100-i)
	}
	f.Fuzz(func(t *testing.T, seed uint64, log string, fuel int) {
		p := newDice(seed).right()
		replaysAs(t, p, log, fuel)
		replaysAs(t, p, "RR1"+log, fuel)
	})
}

// TestReplayLong: a log of many inputs is heard to its end.
func TestReplayLong(t *testing.T) {
	const many = 200000
	log := "RR1" + strings.Repeat(frame("\x01\x00")+frame("\x02\x01\x00"), many)
	p := waitsOf(2, 1)
	if got := replay(t, p, log, 9); len(got.trace) != 0 || got.final != (api.Final{End: api.Ended, Heard: 2 * many}) {
		t.Errorf("P1: %d events, %+v", len(got.trace), got.final)
	}
}

func TestReplayArgumentsStay(t *testing.T) {
	d := newDice(17)
	for range 1000 {
		p, w := d.right(), d.world()
		log, _, _, _ := rerun.Record(p, w, 200)
		asked, _ := roomyArguments(p, api.World{})
		before, _ := roomyArguments(p, api.World{})
		rerun.Replay(asked, log, 200)
		if !reflect.DeepEqual(asked, before) || !reflect.DeepEqual(whole(asked, api.World{}), whole(before, api.World{})) {
			t.Fatalf("P2: written into: %+v", asked)
		}
	}
}

// TestReplayAnswersAreApart: a trace is the caller's, to its last spare room,
// and hangs neither on earlier calls nor on what becomes of the program.
func TestReplayAnswersAreApart(t *testing.T) {
	d := newDice(18)
	for range 1000 {
		p, w := d.right(), d.world()
		log, trace, final, _ := rerun.Record(p, w, 200)
		kept := run{slices.Clone(trace), final}
		spoil(trace)
		first, second := replay(t, p, log, 200), replay(t, p, log, 200)
		for _, v := range first.trace[len(first.trace):cap(first.trace)] {
			if v != (api.Event{}) {
				t.Fatalf("P2: %+v lies behind the trace", v)
			}
		}
		spoil(second.trace)
		if third := replay(t, p, log, 200); !first.equal(kept) || !third.equal(kept) {
			t.Fatalf("P2: %+v became %+v, or %+v", kept, first, third)
		}
		clear(p.Start)
		clear(p.Files)
		if !first.equal(kept) {
			t.Fatalf("P2: %+v became %+v with its program", kept, first)
		}
	}
}

// TestReplayAtOnce: calls at the same time do not disturb each other.
func TestReplayAtOnce(t *testing.T) {
	d := newDice(19)
	p, w := d.right(), d.world()
	log, trace, final, _ := rerun.Record(p, w, 500)
	got := make(chan run)
	for range 16 {
		go func() {
			trace, final, _ := rerun.Replay(p, log, 500)
			got <- run{trace, final}
		}()
	}
	for range 16 {
		if r := <-got; !r.equal(run{trace, final}) {
			t.Errorf("P2: %+v, want %v, %+v", r, trace, final)
		}
	}
}
