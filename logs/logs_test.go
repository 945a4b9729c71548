package logs

import (
	"testing"

	"rerun/api"
)

func TestVarint(t *testing.T) {
	for _, c := range []struct {
		n    int
		want string
	}{
		{0, "\x00"}, {1, "\x01"}, {127, "\x7f"}, {128, "\x80\x01"}, {129, "\x81\x01"}, {300, "\xac\x02"},
		{16383, "\xff\x7f"}, {16384, "\x80\x80\x01"}, {1000000, "\xc0\x84\x3d"},
		{api.MaxClock - 1, "\xff\xff\xff\xff\xff\x1f"}, {api.MaxClock, "\x80\x80\x80\x80\x80\x20"},
	} {
		if got := string(appendVarint([]byte("ahead"), c.n)); got != "ahead"+c.want {
			t.Errorf("P8: varint of %d: %x, want %x", c.n, got, c.want)
		}
	}
}

func TestSum(t *testing.T) {
	for _, c := range []struct {
		bytes string
		want  uint32
	}{
		{"", 0x811c9dc5}, {"a", 0xe40c292c}, {"foobar", 0xbf9cf968}, {"\x00", 0x050c5d1f},
	} {
		if got := sum([]byte(c.bytes)); got != c.want {
			t.Errorf("P8: sum of %q: %x, want %x", c.bytes, got, c.want)
		}
	}
}

func TestBodies(t *testing.T) {
	for _, c := range []struct {
		in   api.Input
		want string
	}{
		{api.Input{Kind: api.Clock, N: 0}, "\x01\x00"},
		{api.Input{Kind: api.Clock, N: 200}, "\x01\xc8\x01"},
		{api.Input{Kind: api.Clock, N: api.MaxClock}, "\x01\x80\x80\x80\x80\x80\x20"},
		{api.Input{Kind: api.Batch}, "\x02\x00"},
		{api.Input{Kind: api.Batch, Files: []int{4}}, "\x02\x01\x04"},
		{api.Input{Kind: api.Batch, Files: []int{0, 1, 2, 3, 4, 5, 6, 7}}, "\x02\x08\x00\x01\x02\x03\x04\x05\x06\x07"},
		{api.Input{Kind: api.Pick, Of: 8, N: 7}, "\x03\x08\x07"},
		{api.Input{Kind: api.Lots, Of: 1, N: 0}, "\x04\x01\x00"},
		{api.Input{Kind: api.Lots, Of: 1000000, N: 999999}, "\x04\xc0\x84\x3d\xbf\x84\x3d"},
		{api.Input{Kind: api.End, N: api.Stopped}, "\x05\x01"},
		{api.Input{Kind: api.End, N: api.Ended}, "\x05\x05"},
	} {
		if got := string(body(c.in)); got != c.want {
			t.Errorf("P8: body of %+v: %x, want %x", c.in, got, c.want)
		}
	}
}

// The sums are written out, so that a wrong sum cannot agree with itself.
func TestWriter(t *testing.T) {
	w := NewWriter()
	w.Heard(api.Input{Kind: api.Clock, N: 3})
	got := w.End(api.Idle)
	want := "RR1" + "\x02\x01\x03\xee\x74\x22\x1d" + "\x02\x05\x02\x55\x6a\x36\xe6"
	if got != want {
		t.Errorf("P8: %x, want %x", got, want)
	}
	if got := NewWriter().End(api.Stopped); got != "RR1"+"\x02\x05\x01\x54\x6a\x35\x53" {
		t.Errorf("P8: a log of no input: %x", got)
	}
}
