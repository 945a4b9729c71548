package check

import (
	"math"
	"testing"

	"rerun/api"
)

// handlers: n handlers that do nothing.
func handlers(n int) [][]api.Op { return make([][]api.Op, n) }

// ops: n operations that are right in every program.
func ops(n int) []api.Op {
	out := make([]api.Op, n)
	for i := range out {
		out[i] = api.Op{Code: api.Stop}
	}
	return out
}

var wrong = []api.Op{{Code: 0}}

func TestErrorsAndTheirOrder(t *testing.T) {
	for _, c := range []struct {
		name string
		p    api.Program
		want api.Errno
	}{
		{"nothing at all", api.Program{}, api.OK},
		{"empty lists", api.Program{Start: []api.Op{}, Timers: [][]api.Op{}, Files: [][]api.Op{}}, api.OK},
		{"as much as may be", api.Program{Start: ops(32), Timers: [][]api.Op{7: ops(32)}, Files: [][]api.Op{7: ops(32)}}, api.OK},
		{"nine timers", api.Program{Timers: handlers(9)}, api.ErrTimers},
		{"nine files", api.Program{Files: handlers(9)}, api.ErrFiles},
		{"a long start", api.Program{Start: ops(33)}, api.ErrOps},
		{"a long timer, the last", api.Program{Timers: [][]api.Op{7: ops(33)}}, api.ErrOps},
		{"a long file, the last", api.Program{Files: [][]api.Op{7: ops(33)}}, api.ErrOps},
		{"a wrong start", api.Program{Start: wrong}, api.ErrOp},
		{"a wrong timer, the last", api.Program{Timers: [][]api.Op{7: wrong}}, api.ErrOp},
		{"a wrong file, the last", api.Program{Files: [][]api.Op{7: wrong}}, api.ErrOp},
		{"wrong behind right ones", api.Program{Start: append(ops(31), wrong...)}, api.ErrOp},
		{"timers ahead of all", api.Program{Start: append(ops(33), wrong...), Timers: handlers(9), Files: handlers(9)}, api.ErrTimers},
		{"files ahead of operations", api.Program{Start: ops(33), Timers: [][]api.Op{wrong}, Files: handlers(9)}, api.ErrFiles},
		{"a long handler ahead of a wrong operation in front of it", api.Program{Start: wrong, Files: [][]api.Op{ops(33)}}, api.ErrOps},
		{"a long handler ahead of its own wrong operation", api.Program{Start: append(wrong, ops(32)...)}, api.ErrOps},
	} {
		if got := Program(c.p); got != c.want {
			t.Errorf("P3: %s: %d, want %d", c.name, got, c.want)
		}
	}
}

func TestCodes(t *testing.T) {
	for _, c := range []int{math.MinInt, -1, 0, 12, 13, 255, 1 << 32, 1<<32 + 1, math.MaxInt} {
		p := api.Program{Start: []api.Op{{Code: c}}, Timers: handlers(1), Files: handlers(1)}
		if got := Program(p); got != api.ErrOp {
			t.Errorf("P3: code %d: %d, want %d", c, got, api.ErrOp)
		}
	}
	for c := api.Set; c <= api.Stop; c++ {
		p := api.Program{Start: []api.Op{{Code: c, A: 0, B: 1}}, Timers: handlers(1), Files: handlers(1)}
		if got := Program(p); got != api.OK {
			t.Errorf("P3: code %d: %d, want OK", c, got)
		}
	}
}

// span: the numbers that an operand may be.
type span struct{ from, to int }

var anything = span{math.MinInt, math.MaxInt}

func (s span) has(n int) bool { return s.from <= n && n <= s.to }

func TestOperands(t *testing.T) {
	register := span{0, 3}
	numbers := []int{math.MinInt, -1, 0, 1, 2, 3, 4, 5, 6, 7, 8, 999999, 1000000, 1000001, 1 << 40, math.MaxInt}
	for _, c := range []struct{ timers, files int }{{3, 5}, {5, 3}, {0, 0}, {8, 8}} {
		timer, file := span{0, c.timers - 1}, span{0, c.files - 1}
		for code, want := range map[int][2]span{
			api.Set:    {register, anything},
			api.Add:    {register, register},
			api.Arm:    {timer, register},
			api.Cancel: {timer, anything},
			api.Watch:  {file, anything},
			api.Ignore: {file, anything},
			api.Now:    {register, anything},
			api.Lot:    {register, span{1, 1000000}},
			api.Emit:   {register, anything},
			api.Skip:   {register, anything},
			api.Stop:   {anything, anything},
		} {
			for _, a := range numbers {
				for _, b := range numbers {
					p := api.Program{Start: []api.Op{{Code: code, A: a, B: b}}, Timers: handlers(c.timers), Files: handlers(c.files)}
					e := api.ErrOp
					if want[0].has(a) && want[1].has(b) {
						e = api.OK
					}
					if got := Program(p); got != e {
						t.Errorf("P3: code %d, A %d, B %d of %d timers and %d files: %d, want %d", code, a, b, c.timers, c.files, got, e)
					}
				}
			}
		}
	}
}
