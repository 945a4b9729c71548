package world

import (
	"math"
	"reflect"
	"slices"
	"testing"

	"rerun/api"
)

func TestClocks(t *testing.T) {
	s := New(api.World{Clocks: []int{5, -1, math.MinInt, 0, api.MaxClock - 1, api.MaxClock, api.MaxClock + 1, math.MaxInt, 4}})
	for i, want := range []int{5, 0, 0, 0, api.MaxClock - 1, api.MaxClock, api.MaxClock, api.MaxClock, 4} {
		in, end := s.Hear(api.Clock, 0)
		if end != 0 || !reflect.DeepEqual(in, api.Input{Kind: api.Clock, N: want}) {
			t.Errorf("P6: clock %d: %+v, end %d, want %d", i, in, end, want)
		}
	}
	ended(t, s, api.Clock, 0)
}

func TestBatches(t *testing.T) {
	s := New(api.World{Batches: [][]int{nil, {}, {7, 0, 7, 3, 0}, {8, -1, math.MaxInt, math.MinInt}, {9, 6, -8, 5}, {7, 6, 5, 4, 3, 2, 1, 0, 0, 1}}})
	for i, want := range [][]int{nil, nil, {0, 3, 7}, nil, {5, 6}, {0, 1, 2, 3, 4, 5, 6, 7}} {
		in, end := s.Hear(api.Batch, 0)
		if end != 0 || in.Kind != api.Batch || in.Of != 0 || in.N != 0 || !slices.Equal(in.Files, want) {
			t.Errorf("P6: batch %d: %+v, end %d, want %v", i, in, end, want)
		}
	}
	ended(t, s, api.Batch, 0)
}

// A batch that is heard is not the list that was handed in.
func TestBatchIsNewMemory(t *testing.T) {
	list := []int{0, 1, 2}
	in, _ := New(api.World{Batches: [][]int{list}}).Hear(api.Batch, 0)
	in.Files[0] = 9
	if list[0] != 0 {
		t.Errorf("P2: the list that was handed in is now %v", list)
	}
}

func TestPicksAndLots(t *testing.T) {
	numbers := []int{0, 1, 7, 13, -1, -7, -8, -13, math.MaxInt, math.MinInt, math.MinInt + 1}
	ofs := []int{7, 7, 7, 7, 7, 7, 7, 7, 8, 8, 8}
	wants := []int{0, 1, 0, 6, 6, 0, 6, 1, 7, 0, 1}
	picks, lots := New(api.World{Picks: numbers}), New(api.World{Lots: numbers})
	for i, of := range ofs {
		if in, end := picks.Hear(api.Pick, of); end != 0 || !reflect.DeepEqual(in, api.Input{Kind: api.Pick, Of: of, N: wants[i]}) {
			t.Errorf("P6: pick %d of %d: %+v, end %d, want %d", numbers[i], of, in, end, wants[i])
		}
		if in, end := lots.Hear(api.Lots, of); end != 0 || !reflect.DeepEqual(in, api.Input{Kind: api.Lots, Of: of, N: wants[i]}) {
			t.Errorf("P6: lot %d below %d: %+v, end %d, want %d", numbers[i], of, in, end, wants[i])
		}
	}
	ended(t, picks, api.Pick, 2)
	ended(t, lots, api.Lots, 1)
}

func TestGreatLots(t *testing.T) {
	s := New(api.World{Lots: []int{math.MinInt, math.MaxInt, -1, 5}})
	for i, want := range []int{224192, 775807, 999999, 0} {
		of := api.MaxLot
		if i == 3 {
			of = 1
		}
		if in, end := s.Hear(api.Lots, of); end != 0 || in.N != want {
			t.Errorf("P6: lot %d: %+v, end %d, want %d", i, in, end, want)
		}
	}
}

// Each list is heard in its own order, whatever is heard of the others.
func TestListsAreApart(t *testing.T) {
	s := New(api.World{Clocks: []int{1, 2}, Batches: [][]int{{1}, {2}}, Picks: []int{0, 1}, Lots: []int{3, 4}})
	var got []int
	for range 2 {
		for _, kind := range []int{api.Lots, api.Clock, api.Pick, api.Batch} {
			in, _ := s.Hear(kind, 8)
			got = append(got, in.N)
			got = append(got, in.Files...)
		}
	}
	if want := []int{3, 1, 0, 0, 1, 4, 2, 1, 0, 2}; !slices.Equal(got, want) {
		t.Errorf("P6: %v, want %v", got, want)
	}
}

func TestNothingIsLeft(t *testing.T) {
	s := New(api.World{})
	for _, kind := range []int{api.Clock, api.Batch, api.Pick, api.Lots} {
		ended(t, s, kind, 2)
	}
}

// ended: there is none, however often one is asked for.
func ended(t *testing.T, s *Source, kind, of int) {
	t.Helper()
	for range 2 {
		if in, end := s.Hear(kind, of); end != api.Ended || !reflect.DeepEqual(in, api.Input{}) {
			t.Errorf("P5: kind %d: %+v, end %d, want nothing and Ended", kind, in, end)
		}
	}
}
