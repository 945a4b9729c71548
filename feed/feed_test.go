package feed

import (
	"slices"
	"testing"
)

// TestFilled: all of the list, in order, and then nothing more, without anyone
// else who sends.
func TestFilled(t *testing.T) {
	for _, list := range [][]int{nil, {}, {7}, {3, 1, 2, 1, 0}, make([]int, 5000)} {
		c := Filled(list)
		if len(c) != len(list) || cap(c) != len(list) {
			t.Errorf("Ways: %d of %d in a channel with room for %d", len(c), len(list), cap(c))
		}
		for i, want := range list {
			if got, ok := <-c; !ok || got != want {
				t.Fatalf("Ways: at %d: %d, %t, want %d", i, got, ok, want)
			}
		}
		for range 2 {
			if got, ok := <-c; ok || got != 0 {
				t.Errorf("Ways: %d behind the last", got)
			}
		}
	}
}

func TestFilledKeepsItsOwn(t *testing.T) {
	list := []int{1, 2, 3}
	c := Filled(list)
	clear(list)
	var got []int
	for n := range c {
		got = append(got, n)
	}
	if !slices.Equal(got, []int{1, 2, 3}) {
		t.Errorf("P2: %v: the list that was handed in is kept", got)
	}
}
