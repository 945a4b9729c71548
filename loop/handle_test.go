package loop

import (
	"testing"

	"rerun/api"
)

func TestOperations(t *testing.T) {
	play(t, "P5", []row{
		{"set", api.Program{Start: does(set(0, -1<<63), set(1, 1<<63-1), set(3, -1), emit(0), emit(1), emit(2), emit(3))}, api.World{}, plenty, events(told(0, -1<<63), told(1, 1<<63-1), told(2, 0), told(3, -1)), final(api.Idle, 0, 0, -1<<63, 1<<63-1, 0, -1)},
		{"add", api.Program{Start: does(set(0, 40), set(1, 2), add(0, 1), add(1, 1))}, api.World{}, plenty, nil, final(api.Idle, 0, 0, 42, 4)},
		{"add wraps round, up and down", api.Program{Start: does(set(0, 1<<63-1), set(1, 1), add(0, 1), set(2, -1<<63), set(3, -1), add(2, 3))}, api.World{}, plenty, nil, final(api.Idle, 0, 0, -1<<63, 1, 1<<63-1, -1)},
		{"now, and one clock twice", api.Program{Start: does(now(3), emit(3), now(2))}, api.World{Clocks: []int{8, 8}}, plenty, events(told(3, 8)), final(api.Idle, 8, 2, 0, 0, 8, 8)},
		{"lot", api.Program{Start: does(lot(0, 10), lot(1, 1), lot(2, 1000000))}, api.World{Lots: []int{27, 27, -1}}, plenty, nil, final(api.Idle, 0, 3, 7, 0, 999999)},
		{"stop", api.Program{Start: does(set(0, 1), stop(), set(0, 2), emit(0))}, api.World{}, plenty, nil, final(api.Stopped, 0, 0, 1)},
		{"registers stay from handler to handler", api.Program{Start: does(set(0, 3), arm(0, 1)), Timers: handlers(does(add(0, 0), emit(0)))}, api.World{Clocks: []int{0}, Batches: quiet(1)}, plenty, events(fired(0), told(0, 6)), final(api.Idle, 0, 2, 6)},
	})
}

func TestSkip(t *testing.T) {
	play(t, "P5", []row{
		{"it leaves one out", api.Program{Start: does(skip(0, 0), emit(0), emit(1))}, api.World{}, plenty, events(told(1, 0)), final(api.Idle, 0, 0)},
		{"it leaves none out", api.Program{Start: does(skip(0, 1), emit(0), emit(1))}, api.World{}, plenty, events(told(0, 0), told(1, 0)), final(api.Idle, 0, 0)},
		{"a skip that is left out", api.Program{Start: does(skip(0, 0), skip(0, 0), emit(1))}, api.World{}, plenty, events(told(1, 0)), final(api.Idle, 0, 0)},
		{"a stop that is left out", api.Program{Start: does(set(0, -1<<63), skip(0, -1<<63), stop(), emit(1))}, api.World{}, plenty, events(told(1, 0)), final(api.Idle, 0, 0, -1<<63)},
		{"nothing is behind it, nor in the next handler", api.Program{Start: does(arm(0, 0), skip(0, 0)), Timers: handlers(does(emit(2)))}, api.World{Clocks: []int{1}, Batches: quiet(1)}, plenty, events(fired(0), told(2, 0)), final(api.Idle, 1, 2)},
		{"it uses one unit, what is left out none", api.Program{Start: does(skip(0, 0), emit(0), skip(0, 0), emit(0), stop())}, api.World{}, 3, nil, final(api.Stopped, 0, 0)},
		{"no unit for what is left out at the end", api.Program{Start: does(skip(0, 0), emit(0))}, api.World{}, 1, nil, final(api.Idle, 0, 0)},
	})
}

func TestFuel(t *testing.T) {
	three := api.Program{Start: does(set(0, 1), set(0, 2), set(0, 3))}
	armed := api.Program{Start: does(arm(0, 0), arm(1, 0)), Timers: handlers(does(emit(0), emit(1)), nil)}
	one := api.World{Clocks: []int{1}, Batches: quiet(1)}
	play(t, "P5", []row{
		{"just enough", three, one, 3, nil, final(api.Idle, 0, 0, 3)},
		{"one too little", three, one, 2, nil, final(api.Spent, 0, 0, 2)},
		{"none", three, one, 0, nil, final(api.Spent, 0, 0)},
		{"below 0", three, one, -1, nil, final(api.Spent, 0, 0)},
		{"far below 0", three, one, -1 << 63, nil, final(api.Spent, 0, 0)},
		{"none, and none needed", api.Program{}, one, 0, nil, final(api.Idle, 0, 0)},
		{"just enough for stop", api.Program{Start: does(set(0, 1), stop())}, one, 2, nil, final(api.Stopped, 0, 0, 1)},
		{"none for stop", api.Program{Start: does(set(0, 1), stop())}, one, 1, nil, final(api.Spent, 0, 0, 1)},
		{"none for a lot, which is not heard", api.Program{Start: does(set(0, 1), lot(1, 9))}, api.World{Lots: []int{4}}, 1, nil, final(api.Spent, 0, 0, 1)},
		{"turns and empty handlers use none", api.Program{Start: does(watch(0)), Files: handlers(nil)}, api.World{Clocks: []int{1, 2}, Batches: [][]int{{0}, {0}}}, 1, events(woke(0), woke(0)), final(api.Ended, 2, 4)},
		{"handlers use of the same", armed, one, 4, events(fired(0), told(0, 0), told(1, 0), fired(1)), final(api.Idle, 1, 2)},
		{"spent in a handler: nothing more", armed, one, 3, events(fired(0), told(0, 0)), final(api.Spent, 1, 1)},
		{"spent ahead of a handler's first", armed, one, 2, events(fired(0)), final(api.Spent, 1, 1)},
	})
}

// Above MaxFuel there is no more than MaxFuel.
func TestMostFuel(t *testing.T) {
	always := make([]api.Op, 32)
	for i := range always {
		always[i] = emit(0)
	}
	always[0] = arm(0, 0)
	p := api.Program{Start: does(arm(0, 0)), Timers: handlers(always)}
	// 1 unit for the start, 32 a turn: 4,999 are 156 turns and 7 operations.
	var whole []api.Event
	for range 156 {
		whole = append(whole, fired(0))
		for range 31 {
			whole = append(whole, told(0, 0))
		}
	}
	whole = append(whole, fired(0))
	for range 6 {
		whole = append(whole, told(0, 0))
	}
	w := api.World{Clocks: make([]int, 1000), Batches: quiet(1000)}
	play(t, "P5", []row{
		{"MaxFuel", p, w, 5000, whole, final(api.Spent, 0, 313)},
		{"one more", p, w, 5001, whole, final(api.Spent, 0, 313)},
		{"the most", p, w, 1<<63 - 1, whole, final(api.Spent, 0, 313)},
		{"one less", p, w, 4999, whole[:len(whole)-1], final(api.Spent, 0, 313)},
	})
}

func TestBackward(t *testing.T) {
	play(t, "P5", []row{
		{"in a turn", api.Program{Start: does(watch(0)), Files: handlers(nil)}, api.World{Clocks: []int{5, 4, 6}, Batches: quiet(3)}, plenty, nil, final(api.Backward, 5, 3)},
		{"in a turn, with a timer due", api.Program{Start: does(now(0), set(1, 0), arm(0, 1)), Timers: handlers(nil)}, api.World{Clocks: []int{5, 4, 6}, Batches: quiet(3)}, plenty, nil, final(api.Backward, 5, 2, 5)},
		{"in a handler", api.Program{Start: does(now(0), now(0), emit(0))}, api.World{Clocks: []int{5, 4, 6}}, plenty, nil, final(api.Backward, 5, 2, 5)},
		{"in a timer's handler", api.Program{Start: does(arm(0, 0), arm(1, 0)), Timers: handlers(does(now(0)), nil)}, api.World{Clocks: []int{5, 4, 6}, Batches: quiet(3)}, plenty, events(fired(0)), final(api.Backward, 5, 2)},
		{"in a file's handler", api.Program{Start: does(watch(0), watch(1)), Files: handlers(does(now(0)), nil)}, api.World{Clocks: []int{5, 4, 6}, Batches: [][]int{{0, 1}}, Picks: []int{0}}, plenty, events(woke(0)), final(api.Backward, 5, 4)},
		{"a time below 0 is 0", api.Program{Start: does(now(0), now(0))}, api.World{Clocks: []int{0, -3}}, plenty, nil, final(api.Idle, 0, 2)},
		{"the same time is not back", api.Program{Start: does(now(0), now(0))}, api.World{Clocks: []int{5, 5}}, plenty, nil, final(api.Idle, 5, 2, 5)},
	})
}

func TestEnded(t *testing.T) {
	two := api.Program{Start: does(watch(0), watch(1)), Files: handlers(nil, nil)}
	play(t, "P5", []row{
		{"no clock for a turn", two, api.World{Batches: quiet(1), Picks: []int{1}, Lots: []int{1}}, plenty, nil, final(api.Ended, 0, 0)},
		{"no batch", two, api.World{Clocks: []int{3, 4}, Picks: []int{1}, Lots: []int{1}}, plenty, nil, final(api.Ended, 3, 1)},
		{"no pick", two, api.World{Clocks: []int{3, 4}, Batches: [][]int{{0, 1}, nil}, Lots: []int{1}}, plenty, nil, final(api.Ended, 3, 2)},
		{"no clock for a handler", api.Program{Start: does(set(0, 9), now(0), emit(0))}, api.World{Lots: []int{1}}, plenty, nil, final(api.Ended, 0, 0, 9)},
		{"no lot", api.Program{Start: does(set(0, 9), lot(0, 5), emit(0))}, api.World{Clocks: []int{1}}, plenty, nil, final(api.Ended, 0, 0, 9)},
	})
}

func TestNothingMoreIsDone(t *testing.T) {
	w := api.World{Clocks: []int{1, 2}, Batches: [][]int{{0, 1}, {0, 1}}, Picks: []int{1, 0, 0}}
	play(t, "P5", []row{
		{"behind a stop of the start", api.Program{Start: does(watch(0), stop(), emit(0)), Files: handlers(nil)}, w, plenty, nil, final(api.Stopped, 0, 0)},
		{"behind a stop of a timer", api.Program{Start: does(arm(0, 0), arm(1, 0), watch(0)), Timers: handlers(does(stop(), emit(0)), does(emit(1))), Files: handlers(nil)}, w, plenty, events(fired(0)), final(api.Stopped, 1, 1)},
		{"behind a stop of the last timer", api.Program{Start: does(arm(0, 0), watch(0)), Timers: handlers(does(stop())), Files: handlers(nil)}, w, plenty, events(fired(0)), final(api.Stopped, 1, 1)},
		{"behind a stop of a file", api.Program{Start: does(watch(0), watch(1)), Files: handlers(does(emit(0)), does(stop(), emit(1)))}, w, plenty, events(woke(1)), final(api.Stopped, 1, 3)},
		{"behind a stop of the last file", api.Program{Start: does(watch(0)), Files: handlers(does(stop()), nil)}, w, plenty, events(woke(0)), final(api.Stopped, 1, 2)},
	})
}
