package logs

import (
	"reflect"
	"slices"
	"strings"
	"testing"

	"rerun/api"
)

// every: an input of each kind, at the edges that a log can hold.
func every() []api.Input {
	return []api.Input{
		{Kind: api.Clock, N: 0}, {Kind: api.Clock, N: 127}, {Kind: api.Clock, N: 128}, {Kind: api.Clock, N: api.MaxClock},
		{Kind: api.Batch}, {Kind: api.Batch, Files: []int{7}}, {Kind: api.Batch, Files: []int{0, 1, 2, 3, 4, 5, 6, 7}},
		{Kind: api.Pick, Of: 2, N: 0}, {Kind: api.Pick, Of: 8, N: 7},
		{Kind: api.Lots, Of: 1, N: 0}, {Kind: api.Lots, Of: api.MaxLot, N: api.MaxLot - 1},
	}
}

func log(inputs []api.Input, end int) string {
	w := NewWriter()
	for _, in := range inputs {
		w.Heard(in)
	}
	return w.End(end)
}

func TestReaderReadsWhatWriterWrote(t *testing.T) {
	for end := api.Stopped; end <= api.Ended; end++ {
		s := log(every(), end)
		r := NewReader(s)
		got := slices.Collect(r.Inputs())
		if want := append(every(), api.Input{Kind: api.End, N: end}); !reflect.DeepEqual(got, want) {
			t.Errorf("P9: %+v, want %+v", got, want)
		}
		if at, why := r.Ends(); at != len(s) || why != api.Whole {
			t.Errorf("P9: ends at %d, why %d; want %d, Whole", at, why, len(s))
		}
	}
}

// ends are where the records of every end.
func ends() []int {
	var out []int
	for n := range every() {
		out = append(out, len(log(every()[:n+1], api.Idle))-len(log(nil, api.Idle))+len(head))
	}
	return out
}

// TestStopSooner: nothing is asked of the iterator behind a break, nothing
// behind the record is gone through, and why it would end is not told.
func TestStopSooner(t *testing.T) {
	places := ends()
	for stop, place := range places {
		r := NewReader(log(every(), api.Idle) + "behind")
		seen := 0
		for in := range r.Inputs() {
			if !reflect.DeepEqual(in, every()[seen]) {
				t.Errorf("Ways: input %d: %+v", seen, in)
			}
			if at, why := r.Ends(); at != places[seen] || why != 0 {
				t.Errorf("Ways: on the way at %d, why %d; want %d, 0", at, why, places[seen])
			}
			if seen == stop {
				break
			}
			seen++
		}
		if at, why := r.Ends(); at != place || why != 0 {
			t.Errorf("Ways: stopped at %d, why %d; want %d, 0", at, why, place)
		}
	}
}

// TestOnceMore: who ranges again begins at the first record again.
func TestOnceMore(t *testing.T) {
	s := log(every(), api.Idle)
	r := NewReader(s)
	inputs := r.Inputs()
	for range inputs {
		break
	}
	first, second := slices.Collect(inputs), slices.Collect(r.Inputs())
	if len(first) != len(every())+1 || !reflect.DeepEqual(first, second) {
		t.Errorf("Ways: %+v, then %+v", first, second)
	}
	if at, why := r.Ends(); at != len(s) || why != api.Whole {
		t.Errorf("Ways: at %d, why %d", at, why)
	}
}

// TestNotGoneThrough: a reader knows nothing ahead of the first range.
func TestNotGoneThrough(t *testing.T) {
	r := NewReader(log(every(), api.Idle))
	r.Inputs()
	if at, why := r.Ends(); at != 0 || why != 0 {
		t.Errorf("Ways: at %d, why %d", at, why)
	}
}

// TestStopsAtTheFirstWrong: what is behind a wrong record is not given, though
// it is right.
func TestStopsAtTheFirstWrong(t *testing.T) {
	s := log(every(), api.Idle)
	for n, place := range ends() {
		bad := s[:place-1] + string([]byte{s[place-1] ^ 1}) + s[place:]
		r := NewReader(bad)
		if got := slices.Collect(r.Inputs()); len(got) != n {
			t.Errorf("P9: %d inputs, want %d", len(got), n)
		}
		want := len(head)
		if n > 0 {
			want = ends()[n-1]
		}
		if at, why := r.Ends(); at != want || why != api.Bad {
			t.Errorf("P9: at %d, why %d; want %d, Bad", at, why, want)
		}
	}
}

func TestReadVarint(t *testing.T) {
	for _, n := range []int{0, 1, 127, 128, 129, 255, 256, 16383, 16384, api.MaxLot, api.MaxClock - 1, api.MaxClock, api.MaxClock + 1, 1<<42 - 1} {
		s := string(appendVarint(nil, n))
		for _, rest := range []string{"", "\x00", "\x80", "\x01\x02"} {
			if got, size := varint(s + rest); got != n || size != len(s) {
				t.Errorf("P9: varint %x: %d of %d bytes, want %d of %d", s+rest, got, size, n, len(s))
			}
		}
	}
	for _, s := range []string{
		"", "\x80", "\xff", "\x80\x80", // not whole
		"\x80\x00", "\xff\x00", "\x81\x80\x00", "\x80\x80\x80\x80\x80\x00", // not the shortest
		"\x80\x80\x80\x80\x80\x80\x01",                      // 2 to the 42
		"\x80\x80\x80\x80\x80\x80\x80\x80\x80\x01",          // 2 to the 63
		"\x83\x80\x80\x80\x80\x80\x80\x80\x80\x02",          // 2 to the 64 and 3
		strings.Repeat("\x80", 38) + "\x01",                 // as long as a body has room
		"\x83" + strings.Repeat("\x80", 37) + "\x00",        // likewise, 3 if its zeros counted
		"\x83" + strings.Repeat("\x80", 8) + "\x80\x80\x01", // 3 if what wraps round were lost
	} {
		if n, size := varint(s); n != 0 || size != 0 {
			t.Errorf("P9: varint %x: %d of %d bytes, want none", s, n, size)
		}
	}
}
