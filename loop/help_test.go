package loop

import (
	"slices"
	"testing"

	"rerun/api"
	"rerun/world"
)

func set(r, n int) api.Op   { return api.Op{Code: api.Set, A: r, B: n} }
func add(r, s int) api.Op   { return api.Op{Code: api.Add, A: r, B: s} }
func arm(t, r int) api.Op   { return api.Op{Code: api.Arm, A: t, B: r} }
func cancel(t int) api.Op   { return api.Op{Code: api.Cancel, A: t} }
func watch(f int) api.Op    { return api.Op{Code: api.Watch, A: f} }
func ignore(f int) api.Op   { return api.Op{Code: api.Ignore, A: f} }
func now(r int) api.Op      { return api.Op{Code: api.Now, A: r} }
func lot(r, of int) api.Op  { return api.Op{Code: api.Lot, A: r, B: of} }
func emit(r int) api.Op     { return api.Op{Code: api.Emit, A: r} }
func skip(r, n int) api.Op  { return api.Op{Code: api.Skip, A: r, B: n} }
func stop() api.Op          { return api.Op{Code: api.Stop} }
func fired(t int) api.Event { return api.Event{Kind: api.Fired, A: t} }
func woke(f int) api.Event  { return api.Event{Kind: api.Woke, A: f} }

func told(r int, v int64) api.Event { return api.Event{Kind: api.Told, A: r, V: v} }

// does: handlers that are lists of operations, written short.
func does(ops ...api.Op) []api.Op          { return ops }
func handlers(list ...[]api.Op) [][]api.Op { return list }
func events(list ...api.Event) []api.Event { return list }
func final(end, clock, heard int, registers ...int64) api.Final {
	f := api.Final{End: end, Clock: clock, Heard: heard}
	copy(f.Registers[:], registers)
	return f
}

// quiet: n batches of no file.
func quiet(n int) [][]int { return make([][]int, n) }

// plenty: fuel that none of the short runs uses up.
const plenty = 1000

// row: a run and what must come of it.
type row struct {
	name  string
	p     api.Program
	w     api.World
	fuel  int
	trace []api.Event
	final api.Final
}

func play(t *testing.T, promise string, rows []row) {
	t.Helper()
	for _, c := range rows {
		trace, final := Run(c.p, world.New(c.w), c.fuel)
		if !slices.Equal(trace, c.trace) {
			t.Errorf("%s: %s: trace %v, want %v", promise, c.name, trace, c.trace)
		}
		if final != c.final {
			t.Errorf("%s: %s: final %+v, want %+v", promise, c.name, final, c.final)
		}
	}
}
