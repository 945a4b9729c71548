// Package rerun: a loop of events that can be run again from what it heard: see DOC.md.
package rerun

import (
	"rerun/api"
	"rerun/check"
	"rerun/logs"
	"rerun/loop"
	"rerun/replay"
	"rerun/world"
)

// Check tells whether a program is one (P3).
func Check(p api.Program) api.Errno { return check.Program(p) }

// Record runs a program by a world, and writes what it heard (P7).
func Record(p api.Program, w api.World, fuel int) (string, []api.Event, api.Final, api.Errno) {
	if e := check.Program(p); e != api.OK {
		return "", nil, api.Final{}, e
	}
	rec := &recorder{from: world.New(w), log: logs.NewWriter()}
	trace, final := loop.Run(p, rec, fuel)
	return rec.log.End(final.End), trace, final, api.OK
}

// recorder writes each input down as it passes it on to the loop.
type recorder struct {
	from *world.Source
	log  *logs.Writer
}

// Hear is how the loop asks (see loop.Source).
func (r *recorder) Hear(kind, of int) (api.Input, int) {
	in, end := r.from.Hear(kind, of)
	if end == 0 {
		r.log.Heard(in)
	}
	return in, end
}

// Read reads a log (P9).
func Read(log string) ([]api.Input, int, int) {
	var inputs []api.Input
	from := logs.NewReader(log)
	for in := range from.Inputs() {
		inputs = append(inputs, in)
	}
	at, why := from.Ends()
	return inputs, at, why
}

// Replay runs a program by a log (P10).
func Replay(p api.Program, log string, fuel int) ([]api.Event, api.Final, api.Errno) {
	if e := check.Program(p); e != api.OK {
		return nil, api.Final{}, e
	}
	inputs, at, _ := Read(log)
	if at == 0 {
		return nil, api.Final{}, api.ErrLog
	}
	from := replay.New(inputs)
	trace, final := loop.Run(p, from, fuel)
	final.End = from.End(final.End)
	return trace, final, api.OK
}
