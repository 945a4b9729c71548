package rerun_test

import (
	"slices"
	"testing"

	"rerun/api"
	"rerun/rerun"
)

// frame: the record of a body, worked out apart from package logs.
func frame(body string) string {
	h := uint32(2166136261)
	for i := range len(body) {
		h = (h ^ uint32(body[i])) * 16777619
	}
	return string(rune(len(body))) + body + string([]byte{byte(h >> 24), byte(h >> 16), byte(h >> 8), byte(h)})
}

func written(bodies ...string) string {
	s := "RR1"
	for _, b := range bodies {
		s += frame(b)
	}
	return s
}

// example: the document's program and world.
func example() (api.Program, api.World) {
	p := api.Program{
		Start: []api.Op{{Code: api.Set, A: 0, B: 5}, {Code: api.Arm, A: 0, B: 0}, {Code: api.Watch, A: 1}},
		Timers: [][]api.Op{
			{{Code: api.Emit, A: 0}, {Code: api.Lot, A: 1, B: 10}, {Code: api.Emit, A: 1}},
		},
		Files: [][]api.Op{nil, {{Code: api.Ignore, A: 1}}},
	}
	return p, api.World{Clocks: []int{3, 6, 9}, Batches: [][]int{nil, {1, 0, 1}}, Lots: []int{13}}
}

func TestExample(t *testing.T) {
	p, w := example()
	short := w
	short.Batches = w.Batches[:1]
	fired, told5 := api.Event{Kind: api.Fired}, api.Event{Kind: api.Told, V: 5}
	told3, woke := api.Event{Kind: api.Told, A: 1, V: 3}, api.Event{Kind: api.Woke, A: 1}
	for _, c := range []struct {
		name  string
		w     api.World
		fuel  int
		log   string
		trace []api.Event
		final api.Final
	}{
		{"whole", w, 100, written("\x01\x03", "\x02\x00", "\x01\x06", "\x04\x0a\x03", "\x02\x02\x00\x01", "\x05\x02"),
			[]api.Event{fired, told5, told3, woke}, api.Final{End: api.Idle, Registers: [4]int64{5, 3}, Clock: 6, Heard: 5}},
		{"without the last batch", short, 100, written("\x01\x03", "\x02\x00", "\x01\x06", "\x04\x0a\x03", "\x05\x05"),
			[]api.Event{fired, told5, told3}, api.Final{End: api.Ended, Registers: [4]int64{5, 3}, Clock: 6, Heard: 4}},
		{"with fuel 4", w, 4, written("\x01\x03", "\x02\x00", "\x01\x06", "\x05\x03"),
			[]api.Event{fired, told5}, api.Final{End: api.Spent, Registers: [4]int64{5}, Clock: 6, Heard: 3}},
	} {
		log, trace, final, e := rerun.Record(p, c.w, c.fuel)
		if e != api.OK || log != c.log || !slices.Equal(trace, c.trace) || final != c.final {
			t.Errorf("P7, P8: %s: %x, %v, %+v, %d; want %x, %v, %+v", c.name, log, trace, final, e, c.log, c.trace, c.final)
		}
	}
}

// TestLogs: a record of each kind and of each end.
func TestLogs(t *testing.T) {
	op := func(code, a, b int) api.Op { return api.Op{Code: code, A: a, B: b} }
	back := api.Program{Start: []api.Op{op(api.Now, 0, 0), op(api.Now, 0, 0)}}
	lots := api.Program{Start: []api.Op{op(api.Lot, 0, 1), op(api.Lot, 0, 1000000), op(api.Stop, 0, 0)}}
	files := api.Program{Start: []api.Op{op(api.Watch, 3, 0), op(api.Watch, 5, 0), op(api.Watch, 7, 0)}, Files: make([][]api.Op, 8)}
	for _, c := range []struct {
		name string
		p    api.Program
		w    api.World
		fuel int
		log  string
	}{
		{"Stopped, lots", lots, api.World{Lots: []int{8, -1}}, 9, written("\x04\x01\x00", "\x04\xc0\x84\x3d\xbf\x84\x3d", "\x05\x01")},
		{"Idle", api.Program{}, api.World{}, 9, written("\x05\x02")},
		{"Spent", lots, api.World{Lots: []int{8, 3}}, 1, written("\x04\x01\x00", "\x05\x03")},
		{"Backward, clocks", back, api.World{Clocks: []int{1 << 62, 128}}, 9, written("\x01\x80\x80\x80\x80\x80\x20", "\x01\x80\x01", "\x05\x04")},
		{"Ended, batches and picks; files that there are not are in a batch", files, api.World{Clocks: []int{-1, 127}, Batches: [][]int{{7, 0, 5, 3, 9}}, Picks: []int{-1, 3}}, 9,
			written("\x01\x00", "\x02\x04\x00\x03\x05\x07", "\x03\x03\x02", "\x03\x02\x01", "\x01\x7f", "\x05\x05")},
	} {
		if log, _, _, e := rerun.Record(c.p, c.w, c.fuel); e != api.OK || log != c.log {
			t.Errorf("P8: %s: %x, %d; want %x", c.name, log, e, c.log)
		}
	}
}

// TestRefused: the error is that of Check, and nothing comes beside it.
func TestRefused(t *testing.T) {
	_, w := example()
	long := make([]api.Op, 33)
	for want, p := range map[api.Errno]api.Program{
		api.ErrTimers: {Start: long, Timers: make([][]api.Op, 9), Files: make([][]api.Op, 9)},
		api.ErrFiles:  {Start: long, Files: make([][]api.Op, 9)},
		api.ErrOps:    {Start: []api.Op{{}}, Timers: [][]api.Op{long}},
		api.ErrOp:     {Start: []api.Op{{Code: api.Now}, {Code: api.Emit, A: 0}, {Code: api.Emit, A: 4}}},
	} {
		if e := rerun.Check(p); e != want {
			t.Errorf("P3: Check: %d, want %d", e, want)
		}
		log, trace, final, e := rerun.Record(p, w, 100)
		if e != want || log != "" || len(trace) != 0 || final != (api.Final{}) {
			t.Errorf("P1, P7: %q, %v, %+v, %d; want nothing, and %d", log, trace, final, e, want)
		}
	}
}
