// Package world hands out what a world says, input by input.
package world

import (
	"rerun/api"
	"rerun/code"
	"rerun/feed"
)

// Source has a channel for each list of a world, because which kind is asked
// for next is known only as the run goes on.
type Source struct {
	clocks  <-chan int
	batches <-chan []int
	picks   <-chan int
	lots    <-chan int
}

// New makes a source of all that w says.
func New(w api.World) *Source {
	return &Source{
		clocks:  feed.Filled(w.Clocks),
		batches: feed.Filled(w.Batches),
		picks:   feed.Filled(w.Picks),
		lots:    feed.Filled(w.Lots),
	}
}

// Hear answers the next input of the kind; of is the number of files of a
// pick or the bound of a lot. The second answer is 0, or the end of the run
// if there is no such input.
func (s *Source) Hear(kind, of int) (api.Input, int) {
	switch kind {
	case code.HearClock:
		n, ok := <-s.clocks
		return heard(api.Input{Kind: kind, N: min(max(n, 0), api.MaxClock)}, ok)
	case code.HearBatch:
		list, ok := <-s.batches
		return heard(api.Input{Kind: kind, Files: files(list)}, ok)
	case code.HearPick:
		n, ok := <-s.picks
		return heard(api.Input{Kind: kind, Of: of, N: modulo(n, of)}, ok)
	case code.HearLot:
		n, ok := <-s.lots
		return heard(api.Input{Kind: kind, Of: of, N: modulo(n, of)}, ok)
	}
	return api.Input{}, api.Ended
}

func heard(in api.Input, ok bool) (api.Input, int) {
	if !ok {
		return api.Input{}, api.Ended
	}
	return in, 0
}

// files answers the numbers of the list that count, each once, rising.
func files(list []int) []int {
	var named [api.MaxFiles]bool
	for _, n := range list {
		if 0 <= n && n < api.MaxFiles {
			named[n] = true
		}
	}
	var out []int
	for n, is := range named {
		if is {
			out = append(out, n)
		}
	}
	return out
}

// modulo is never below 0, as Go's remainder is for an n below 0.
func modulo(n, of int) int {
	return (n%of + of) % of
}
