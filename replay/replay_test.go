package replay

import (
	"reflect"
	"testing"

	"rerun/api"
)

// asks: what may be asked for.
var asks = []struct{ kind, of int }{
	{api.Clock, 0}, {api.Batch, 0}, {api.Pick, 2}, {api.Pick, 3}, {api.Pick, 8},
	{api.Lots, 1}, {api.Lots, 2}, {api.Lots, 3}, {api.Lots, 8}, {api.Lots, api.MaxLot},
}

// someOf: inputs that are right for a kind.
func someOf(kind, of int) []api.Input {
	switch kind {
	case api.Clock:
		return []api.Input{{Kind: kind}, {Kind: kind, N: 2}, {Kind: kind, N: api.MaxClock}}
	case api.Batch:
		return []api.Input{{Kind: kind}, {Kind: kind, Files: []int{2}}, {Kind: kind, Files: []int{0, 1, 2, 3, 4, 5, 6, 7}}}
	}
	return []api.Input{{Kind: kind, Of: of}, {Kind: kind, Of: of, N: of - 1}}
}

// TestHear: each thing that may be asked for where each thing is next.
func TestHear(t *testing.T) {
	for _, ask := range asks {
		for _, has := range asks {
			for _, next := range someOf(has.kind, has.of) {
				in, end := New([]api.Input{next}).Hear(ask.kind, ask.of)
				if ask == has && (end != 0 || !reflect.DeepEqual(in, next)) {
					t.Errorf("P10: %+v asked for: %+v, end %d, want %+v", ask, in, end, next)
				}
				if ask != has && (end != api.Diverged || !reflect.DeepEqual(in, api.Input{})) {
					t.Errorf("P10: %+v asked for, %+v next: %+v, end %d, want Diverged", ask, next, in, end)
				}
			}
		}
	}
}

func TestHearEnds(t *testing.T) {
	for _, ask := range asks {
		if in, end := New(nil).Hear(ask.kind, ask.of); end != api.Ended || !reflect.DeepEqual(in, api.Input{}) {
			t.Errorf("P10: %+v asked for where nothing is: %+v, end %d", ask, in, end)
		}
		for with, want := range map[int]int{api.Stopped: api.Diverged, api.Idle: api.Diverged, api.Spent: api.Diverged, api.Backward: api.Diverged, api.Ended: api.Ended} {
			s := New([]api.Input{{Kind: api.End, N: with}})
			if in, end := s.Hear(ask.kind, ask.of); end != want || !reflect.DeepEqual(in, api.Input{}) {
				t.Errorf("P10: %+v asked for at the end with %d: %+v, end %d, want %d", ask, with, in, end, want)
			}
		}
	}
}

// TestHearInOrder: one after the other, and an N of Ended is no end.
func TestHearInOrder(t *testing.T) {
	list := []api.Input{{Kind: api.Clock, N: 5}, {Kind: api.Pick, Of: 8, N: 5}, {Kind: api.Lots, Of: 9, N: 5}, {Kind: api.Batch, Files: []int{5}}, {Kind: api.Clock, N: 6}}
	s := New(list)
	for i, want := range list {
		if in, end := s.Hear(want.Kind, want.Of); end != 0 || !reflect.DeepEqual(in, want) {
			t.Errorf("P10: at %d: %+v, end %d, want %+v", i, in, end, want)
		}
	}
	if _, end := s.Hear(api.Clock, 0); end != api.Ended {
		t.Errorf("P10: behind the last: end %d", end)
	}
}

// TestEnd: each end that a run may have by itself where each thing is next.
func TestEnd(t *testing.T) {
	for own := api.Stopped; own <= api.Backward; own++ {
		if got := New(nil).End(own); got != own {
			t.Errorf("P10: %d where nothing is next: %d", own, got)
		}
		for with := api.Stopped; with <= api.Ended; with++ {
			want := api.Diverged
			if with == own {
				want = own
			}
			if got := New([]api.Input{{Kind: api.End, N: with}}).End(own); got != want {
				t.Errorf("P10: %d at the end with %d: %d, want %d", own, with, got, want)
			}
		}
		for _, next := range []api.Input{{Kind: api.Clock, N: own}, {Kind: api.Batch}, {Kind: api.Pick, Of: 8, N: own}, {Kind: api.Lots, Of: 8, N: own}} {
			if got := New([]api.Input{next}).End(own); got != api.Diverged {
				t.Errorf("P10: %d where %+v is next: %d", own, next, got)
			}
		}
	}
}

// TestEndStays: what Hear has told is not held against the log once more.
func TestEndStays(t *testing.T) {
	for _, own := range []int{api.Ended, api.Diverged} {
		for _, left := range [][]api.Input{nil, {{Kind: api.Clock}}, {{Kind: api.End, N: api.Idle}}, {{Kind: api.End, N: api.Ended}}} {
			if got := New(left).End(own); got != own {
				t.Errorf("P10: %d with %+v left: %d", own, left, got)
			}
		}
	}
}
