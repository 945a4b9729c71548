// Package replay hands out what a log has, input by input, and tells where a
// run asks for something else.
package replay

import (
	"rerun/api"
	"rerun/code"
	"rerun/feed"
)

// Source has one channel for all kinds, because a run that is had again asks
// for them in the order in which they were heard.
type Source struct {
	inputs <-chan api.Input
}

// New makes a source of the inputs of a log, the end's among them.
func New(inputs []api.Input) *Source {
	return &Source{inputs: feed.Filled(inputs)}
}

// Hear answers the next input, if it is what is asked for: of that kind, and of
// so many files for a pick, below that bound for a lot. The second answer is 0,
// or the end of the run if it is not.
func (s *Source) Hear(kind, of int) (api.Input, int) {
	next, ok := <-s.inputs
	switch {
	case !ok || isEnd(next, api.Ended):
		return api.Input{}, api.Ended
	case next.Kind != kind || next.Of != of:
		return api.Input{}, api.Diverged
	}
	return next, 0
}

// End answers with what the run ends by the log, if it ended so by itself. It
// is asked once, behind the last Hear.
func (s *Source) End(own int) int {
	if own == api.Ended || own == api.Diverged {
		return own // Hear has held this against the log already
	}
	if next, ok := <-s.inputs; ok && !isEnd(next, own) {
		return api.Diverged
	}
	return own
}

func isEnd(in api.Input, with int) bool {
	return in.Kind == code.HearEnd && in.N == with
}
