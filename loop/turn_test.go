package loop

import (
	"testing"

	"rerun/api"
)

func TestBeginning(t *testing.T) {
	clocks := api.World{Clocks: []int{7}, Batches: quiet(1)}
	play(t, "P4", []row{
		{"all registers are 0", api.Program{Start: does(emit(0), emit(1), emit(2), emit(3))}, clocks, plenty, events(told(0, 0), told(1, 0), told(2, 0), told(3, 0)), final(api.Idle, 0, 0)},
		{"nothing is armed or watched, and nothing heard", api.Program{Timers: handlers(does(stop())), Files: handlers(does(stop()))}, clocks, plenty, nil, final(api.Idle, 0, 0)},
		{"the loop's time is 0", api.Program{Start: does(arm(0, 0)), Timers: handlers(nil)}, api.World{Clocks: []int{0}, Batches: quiet(1)}, plenty, events(fired(0)), final(api.Idle, 0, 2)},
	})
}

func TestTurn(t *testing.T) {
	play(t, "P4", []row{
		{"a turn goes on to its batch with nothing left armed", api.Program{Start: does(arm(0, 0)), Timers: handlers(does(emit(0)))}, api.World{Clocks: []int{1, 2}, Batches: quiet(2)}, plenty, events(fired(0), told(0, 0)), final(api.Idle, 1, 2)},
		{"a batch is heard where no file is watched", api.Program{Start: does(arm(0, 0)), Timers: handlers(nil)}, api.World{Clocks: []int{1, 2}}, plenty, events(fired(0)), final(api.Ended, 1, 1)},
		{"a clock is heard where no timer is armed", api.Program{Start: does(watch(0)), Files: handlers(does(ignore(0)))}, api.World{Clocks: []int{3, 4}, Batches: [][]int{nil, {0}}}, plenty, events(woke(0)), final(api.Idle, 4, 4)},
		{"timers go ahead of files", api.Program{Start: does(arm(0, 0), watch(0)), Timers: handlers(nil), Files: handlers(does(ignore(0)))}, api.World{Clocks: []int{1}, Batches: [][]int{{0}}}, plenty, events(fired(0), woke(0)), final(api.Idle, 1, 2)},
		{"a file that a timer watches is ready in that turn", api.Program{Start: does(arm(0, 0)), Timers: handlers(does(watch(0))), Files: handlers(does(ignore(0)))}, api.World{Clocks: []int{1}, Batches: [][]int{{0}}}, plenty, events(fired(0), woke(0)), final(api.Idle, 1, 2)},
		{"a file that a timer ignores is not", api.Program{Start: does(arm(0, 0), watch(0)), Timers: handlers(does(ignore(0))), Files: handlers(nil)}, api.World{Clocks: []int{1}, Batches: [][]int{{0}}}, plenty, events(fired(0)), final(api.Idle, 1, 2)},
		{"a timer that a file arms waits for the next turn", api.Program{Start: does(watch(0)), Timers: handlers(nil), Files: handlers(does(arm(0, 0), ignore(0)))}, api.World{Clocks: []int{5, 5}, Batches: [][]int{{0}, nil}}, plenty, events(woke(0), fired(0)), final(api.Idle, 5, 4)},
	})
}

func TestDue(t *testing.T) {
	three := handlers(nil, nil, nil)
	play(t, "P4", []row{
		{"for that time, not for one more", api.Program{Start: does(set(0, 5), arm(0, 0), set(0, 6), arm(1, 0)), Timers: three}, api.World{Clocks: []int{4, 5}, Batches: quiet(2)}, plenty, events(fired(0)), final(api.Ended, 5, 4, 6)},
		{"in the order of their times", api.Program{Start: does(set(0, 3), arm(0, 0), set(0, 1), arm(1, 0), set(0, 2), arm(2, 0)), Timers: three}, api.World{Clocks: []int{9}, Batches: quiet(1)}, plenty, events(fired(1), fired(2), fired(0)), final(api.Idle, 9, 2, 2)},
		{"of one time in the order of arming", api.Program{Start: does(arm(2, 0), arm(0, 0), arm(1, 0)), Timers: three}, api.World{Clocks: []int{9}, Batches: quiet(1)}, plenty, events(fired(2), fired(0), fired(1)), final(api.Idle, 9, 2)},
		{"armed anew for the same time goes behind", api.Program{Start: does(arm(2, 0), arm(0, 0), arm(1, 0), arm(2, 0)), Timers: three}, api.World{Clocks: []int{9}, Batches: quiet(1)}, plenty, events(fired(0), fired(1), fired(2)), final(api.Idle, 9, 2)},
		{"armed anew it is not for the former time", api.Program{Start: does(set(0, 1), arm(0, 0), set(0, 8), arm(0, 0)), Timers: three}, api.World{Clocks: []int{7, 8}, Batches: quiet(2)}, plenty, events(fired(0)), final(api.Idle, 8, 4, 8)},
		{"one time from two loop's times", api.Program{Start: does(set(0, 5), arm(1, 0), now(1), set(0, 2), arm(0, 0)), Timers: three}, api.World{Clocks: []int{3, 5}, Batches: quiet(1)}, plenty, events(fired(1), fired(0)), final(api.Idle, 5, 3, 2, 3)},
		{"cancelled, and a timer cancelled that is not armed", api.Program{Start: does(arm(0, 0), arm(1, 0), cancel(0), cancel(2)), Timers: three}, api.World{Clocks: []int{1}, Batches: quiet(1)}, plenty, events(fired(1)), final(api.Idle, 1, 2)},
		{"all are cancelled", api.Program{Start: does(arm(0, 0), cancel(0)), Timers: three}, api.World{Clocks: []int{1}}, plenty, nil, final(api.Idle, 0, 0)},
		{"all eight", api.Program{Start: does(arm(7, 0), arm(6, 0), arm(5, 0), arm(4, 0), arm(3, 0), arm(2, 0), arm(1, 0), arm(0, 0)), Timers: make([][]api.Op, 8)}, api.World{Clocks: []int{0}, Batches: quiet(1)}, plenty, events(fired(7), fired(6), fired(5), fired(4), fired(3), fired(2), fired(1), fired(0)), final(api.Idle, 0, 2)},
	})
}

func TestDueThatChange(t *testing.T) {
	both := does(arm(0, 0), arm(1, 0))
	two := api.World{Clocks: []int{4, 4}, Batches: quiet(2)}
	play(t, "P4", []row{
		{"cancelled by one ahead", api.Program{Start: both, Timers: handlers(does(cancel(1)), does(stop()))}, two, plenty, events(fired(0)), final(api.Idle, 4, 2)},
		{"armed anew by one ahead", api.Program{Start: both, Timers: handlers(does(arm(1, 0)), nil)}, two, plenty, events(fired(0), fired(1)), final(api.Idle, 4, 4)},
		{"cancelled and armed anew", api.Program{Start: both, Timers: handlers(does(cancel(1), arm(1, 0)), nil)}, two, plenty, events(fired(0), fired(1)), final(api.Idle, 4, 4)},
		{"armed anew and cancelled", api.Program{Start: both, Timers: handlers(does(arm(1, 0), cancel(1)), does(stop()))}, two, plenty, events(fired(0)), final(api.Idle, 4, 2)},
		{"armed anew for the very time it was armed for", api.Program{Start: does(set(0, 4), arm(0, 0), arm(1, 0), set(0, 0)), Timers: handlers(does(arm(1, 0)), nil)}, two, plenty, events(fired(0), fired(1)), final(api.Idle, 4, 4)},
		{"it arms itself", api.Program{Start: does(arm(0, 0)), Timers: handlers(does(arm(0, 0)))}, two, plenty, events(fired(0), fired(0)), final(api.Ended, 4, 4)},
		{"it cancels itself, and is armed no more as it is", api.Program{Start: does(arm(0, 0)), Timers: handlers(does(cancel(0)))}, two, plenty, events(fired(0)), final(api.Idle, 4, 2)},
		{"one that was not armed is not due in that turn", api.Program{Start: does(arm(0, 0)), Timers: handlers(does(arm(1, 0)), nil)}, two, plenty, events(fired(0), fired(1)), final(api.Idle, 4, 4)},
		{"a clock in a handler makes no other due", api.Program{Start: does(arm(0, 0), set(0, 8), arm(1, 0)), Timers: handlers(does(now(1)), does(emit(1)))}, api.World{Clocks: []int{4, 9, 9}, Batches: quiet(2)}, plenty, events(fired(0), fired(1), told(1, 9)), final(api.Idle, 9, 5, 8, 9)},
		{"arming goes by the clock in the handler", api.Program{Start: does(arm(0, 0), set(0, 2)), Timers: handlers(does(now(1), arm(1, 0)), nil)}, api.World{Clocks: []int{1, 6, 7, 8}, Batches: quiet(3)}, plenty, events(fired(0), fired(1)), final(api.Idle, 8, 7, 2, 6)},
	})
}

func TestArm(t *testing.T) {
	const most = api.MaxClock
	one := handlers(nil)
	play(t, "P4", []row{
		{"a register below 0 adds nothing", api.Program{Start: does(now(1), set(0, -5), arm(0, 0)), Timers: one}, api.World{Clocks: []int{7, 7}, Batches: quiet(1)}, plenty, events(fired(0)), final(api.Idle, 7, 3, -5, 7)},
		{"nothing more, nor less: behind one that is armed for then", api.Program{Start: does(now(1), arm(1, 2), set(0, -5), arm(0, 0)), Timers: handlers(nil, nil)}, api.World{Clocks: []int{7, 7}, Batches: quiet(1)}, plenty, events(fired(1), fired(0)), final(api.Idle, 7, 3, -5, 7)},
		{"the lowest register too", api.Program{Start: does(now(1), set(0, -1<<63), arm(0, 0)), Timers: one}, api.World{Clocks: []int{7, 7}, Batches: quiet(1)}, plenty, events(fired(0)), final(api.Idle, 7, 3, -1<<63, 7)},
		{"MaxClock at most", api.Program{Start: does(now(1), set(0, most), arm(0, 0)), Timers: one}, api.World{Clocks: []int{7, most - 1, most}, Batches: quiet(2)}, plenty, events(fired(0)), final(api.Idle, most, 5, most, 7)},
		{"the highest register does not wrap round", api.Program{Start: does(now(1), set(0, 1<<63-1), arm(0, 0)), Timers: one}, api.World{Clocks: []int{7, most - 1, most}, Batches: quiet(2)}, plenty, events(fired(0)), final(api.Idle, most, 5, 1<<63-1, 7)},
		{"just MaxClock, and one less", api.Program{Start: does(now(1), set(0, most-7), arm(0, 0), set(0, most-8), arm(1, 0)), Timers: handlers(nil, nil)}, api.World{Clocks: []int{7, most - 1, most}, Batches: quiet(2)}, plenty, events(fired(1), fired(0)), final(api.Idle, most, 5, most-8, 7)},
		{"at MaxClock for MaxClock", api.Program{Start: does(now(1), set(0, 1), arm(0, 0)), Timers: one}, api.World{Clocks: []int{most, most}, Batches: quiet(1)}, plenty, events(fired(0)), final(api.Idle, most, 3, 1, most)},
	})
}

func TestReady(t *testing.T) {
	three := does(watch(0), watch(1), watch(2))
	still := handlers(nil, nil, nil)
	play(t, "P4", []row{
		{"picked from those that are left", api.Program{Start: three, Files: still}, api.World{Clocks: []int{1}, Batches: [][]int{{2, 1, 0}}, Picks: []int{1, 1}}, plenty, events(woke(1), woke(2), woke(0)), final(api.Ended, 1, 4)},
		{"no pick of one alone", api.Program{Start: three, Files: still}, api.World{Clocks: []int{1}, Batches: [][]int{{2, 2}}, Picks: []int{5}}, plenty, events(woke(2)), final(api.Ended, 1, 2)},
		{"only those that are watched", api.Program{Start: does(watch(2), watch(1), ignore(1)), Files: still}, api.World{Clocks: []int{1}, Batches: [][]int{{0, 1, 2}}, Picks: []int{5}}, plenty, events(woke(2)), final(api.Ended, 1, 2)},
		{"only those that there are", api.Program{Start: three, Files: still}, api.World{Clocks: []int{1}, Batches: [][]int{{3, 4, 5, 6, 7, 8, -1, 1}}, Picks: []int{5}}, plenty, events(woke(1)), final(api.Ended, 1, 2)},
		{"watched twice is ignored at once", api.Program{Start: does(watch(0), watch(0), ignore(0)), Files: still}, api.World{Clocks: []int{1}}, plenty, nil, final(api.Idle, 0, 0)},
		{"ignored by one ahead, and picked all the same", api.Program{Start: three, Files: handlers(does(ignore(1)), does(stop()), nil)}, api.World{Clocks: []int{1}, Batches: [][]int{{0, 1, 2}}, Picks: []int{0, 0}}, plenty, events(woke(0), woke(2)), final(api.Ended, 1, 4)},
		{"ignored and watched again", api.Program{Start: three, Files: handlers(does(ignore(1), watch(1)), nil, nil)}, api.World{Clocks: []int{1}, Batches: [][]int{{0, 1}}, Picks: []int{0}}, plenty, events(woke(0), woke(1)), final(api.Ended, 1, 3)},
		{"watched too late for the batch", api.Program{Start: does(watch(0)), Files: handlers(does(watch(1)), nil)}, api.World{Clocks: []int{1}, Batches: [][]int{{0, 1}}}, plenty, events(woke(0)), final(api.Ended, 1, 2)},
		{"it stays watched", api.Program{Start: does(watch(0)), Files: handlers(nil)}, api.World{Clocks: []int{1, 2}, Batches: [][]int{{0}, {0}}}, plenty, events(woke(0), woke(0)), final(api.Ended, 2, 4)},
		{"all eight", api.Program{Start: does(watch(0), watch(1), watch(2), watch(3), watch(4), watch(5), watch(6), watch(7)), Files: make([][]api.Op, 8)}, api.World{Clocks: []int{1}, Batches: [][]int{{0, 1, 2, 3, 4, 5, 6, 7}}, Picks: []int{7, -1, 5, -1, 0, 0, 0}}, plenty, events(woke(7), woke(6), woke(5), woke(4), woke(0), woke(1), woke(2), woke(3)), final(api.Ended, 1, 9)},
	})
}
