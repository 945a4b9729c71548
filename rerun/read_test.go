package rerun_test

import (
	"slices"
	"strings"
	"testing"

	"rerun/api"
	"rerun/rerun"
)

func sameInput(a, b api.Input) bool {
	return a.Kind == b.Kind && a.Of == b.Of && a.N == b.N && slices.Equal(a.Files, b.Files)
}

// reads holds what Read answers against what it must.
func reads(t *testing.T, log string, inputs []api.Input, at, why int) {
	t.Helper()
	got, gotAt, gotWhy := rerun.Read(log)
	if !slices.EqualFunc(got, inputs, sameInput) || gotAt != at || gotWhy != why {
		t.Errorf("P9: Read(%x) = %+v, %d, %d; want %+v, %d, %d", log, got, gotAt, gotWhy, inputs, at, why)
	}
}

func TestReadRecorded(t *testing.T) {
	p, w := example()
	log, _, _, _ := rerun.Record(p, w, 100)
	inputs := []api.Input{
		{Kind: api.Clock, N: 3}, {Kind: api.Batch}, {Kind: api.Clock, N: 6},
		{Kind: api.Lots, Of: 10, N: 3}, {Kind: api.Batch, Files: []int{0, 1}}, {Kind: api.End, N: api.Idle},
	}
	reads(t, log, inputs, len(log), api.Whole)
	none, _, _, _ := rerun.Record(api.Program{}, api.World{}, 0)
	reads(t, none, []api.Input{{Kind: api.End, N: api.Idle}}, 10, api.Whole)
}

func TestReadFirstBytes(t *testing.T) {
	right := written("\x05\x01")
	for _, s := range []string{"", "R", "RR"} {
		reads(t, s, nil, 0, api.Torn)
	}
	for _, s := range []string{
		"r", "1", "\x00", "Rr", "R1", "RR\x00", "RR2", "RRR", "RX1", "XR1", "1RR",
		right[1:], "R" + right, "\x00" + right, " " + right, "rr1" + right[3:], "RR2" + right[3:], "RR\xb1" + right[3:],
	} {
		reads(t, s, nil, 0, api.Malformed)
	}
	reads(t, "RR1", nil, 3, api.Torn)
}

// TestReadLengths: behind a head, and behind a record that is right.
func TestReadLengths(t *testing.T) {
	ahead := frame("\x01\x03")
	tail := frame("\x05\x01")
	fill := strings.Repeat("\x00", 60)
	for _, c := range []struct {
		s   string
		why int
	}{
		{"", api.Torn}, {"\x80", api.Torn}, {"\x81", api.Torn}, {"\xff", api.Torn}, {"\xa9", api.Torn},
		{"\x80\x80", api.Malformed}, {"\x81\x80", api.Malformed}, {"\xff\xff", api.Malformed},
		{"\x81\x00", api.Malformed}, {"\x80\x01", api.Malformed}, {"\xa8\x00", api.Malformed}, {"\xff\x7f", api.Malformed},
		{"\x82\x00" + tail[1:], api.Malformed}, {"\x82\x80\x00" + tail[1:], api.Malformed},
		{strings.Repeat("\x80", 9), api.Malformed}, {strings.Repeat("\xff", 40), api.Malformed},
		{"\x82" + strings.Repeat("\x80", 9) + "\x00" + tail[1:], api.Malformed},
		{"\x82" + strings.Repeat("\x80", 9) + "\x01" + tail[1:], api.Malformed},
		{"\x00", api.Malformed}, {"\x00" + fill, api.Malformed}, {frame(""), api.Malformed},
		{"\x01", api.Torn}, {"\x01\x01\x00\x00\x00", api.Torn}, {"\x01" + fill, api.Bad}, {frame("\x01"), api.Malformed},
		{"\x28", api.Torn}, {"\x28" + fill[:43], api.Torn}, {"\x28" + fill[:44], api.Bad}, {frame(fill[:40]), api.Malformed},
		{"\x29", api.Malformed}, {"\x29" + fill, api.Malformed}, {frame(fill[:41]), api.Malformed},
		{"\x7f", api.Malformed}, {"\x7f" + fill, api.Malformed},
	} {
		reads(t, "RR1"+c.s, nil, 3, c.why)
		reads(t, "RR1"+ahead+c.s, []api.Input{{Kind: api.Clock, N: 3}}, 10, c.why)
	}
}

// TestReadSums: each bit of a sum counts, and it goes ahead of the body.
func TestReadSums(t *testing.T) {
	log := []byte(written("\x01\x03", "\x05\x01"))
	for at := 6; at < 10; at++ {
		for bit := range 8 {
			log[at] ^= 1 << bit
			reads(t, string(log), nil, 3, api.Bad)
			log[at] ^= 1 << bit
		}
	}
	for _, body := range []string{"\x06\x01", "\x01", "\x01\x80\x00", "\x05\x06"} {
		s := frame(body)
		reads(t, "RR1"+s, nil, 3, api.Malformed)
		reads(t, "RR1"+s[:len(s)-1]+string([]byte{s[len(s)-1] ^ 1}), nil, 3, api.Bad)
		reads(t, "RR1"+s[:len(s)-1], nil, 3, api.Torn)
	}
	s := frame("\x01\x03")
	reads(t, "RR1"+s[:3]+string([]byte{s[6], s[5], s[4], s[3]}), nil, 3, api.Bad)
}

// one: a log of a single body that is no end's is torn behind it.
func one(t *testing.T, body string, in api.Input) {
	t.Helper()
	log := written(body)
	reads(t, log, []api.Input{in}, len(log), api.Torn)
	reads(t, log+frame("\x05\x01"), []api.Input{in, {Kind: api.End, N: 1}}, len(log)+7, api.Whole)
}

func none(t *testing.T, bodies ...string) {
	t.Helper()
	for _, b := range bodies {
		reads(t, written(b), nil, 3, api.Malformed)
		reads(t, written("\x04\x0a\x03", b, "\x05\x01"), []api.Input{{Kind: api.Lots, Of: 10, N: 3}}, 11, api.Malformed)
	}
}

func TestReadKinds(t *testing.T) {
	none(t, "\x00", "\x00\x01", "\x06", "\x06\x01", "\x06\x02\x01", "\x7f\x01", "\x80\x01", "\xff\x01")
	none(t, "\x81\x00\x03", "\x82\x00\x00", "\x85\x00\x01", "\x81\x01", "\x85\x01")
	none(t, "\x01", "\x02", "\x03", "\x04", "\x05")
}

func TestReadClocks(t *testing.T) {
	clock := func(n int) api.Input { return api.Input{Kind: api.Clock, N: n} }
	one(t, "\x01\x00", clock(0))
	one(t, "\x01\x7f", clock(127))
	one(t, "\x01\x80\x01", clock(128))
	one(t, "\x01\xff\xff\xff\xff\xff\x1f", clock(api.MaxClock-1))
	one(t, "\x01\x80\x80\x80\x80\x80\x20", clock(api.MaxClock))
	none(t, "\x01\x81\x80\x80\x80\x80\x20", "\x01\xff\xff\xff\xff\xff\x7f", "\x01\x80\x80\x80\x80\x80\x80\x01")
	// Numbers that would be small again if what is above 64 bits were lost.
	none(t, "\x01\x83\x80\x80\x80\x80\x80\x80\x80\x80\x02", "\x01\x83"+strings.Repeat("\x80", 36)+"\x01", "\x01"+strings.Repeat("\xff", 38)+"\x7f")
	none(t, "\x01\x80", "\x01\x83\x80", "\x01"+strings.Repeat("\x80", 39))
	none(t, "\x01\x80\x00", "\x01\x83\x00", "\x01\x83\x80\x00", "\x01\x80\x80\x80\x80\x80\xa0\x00")
	none(t, "\x01\x03\x00", "\x01\x03\x03", "\x01\x80\x01\x80")
}

func TestReadBatches(t *testing.T) {
	batch := func(files ...int) api.Input { return api.Input{Kind: api.Batch, Files: files} }
	one(t, "\x02\x00", batch())
	one(t, "\x02\x01\x00", batch(0))
	one(t, "\x02\x01\x07", batch(7))
	one(t, "\x02\x03\x01\x04\x06", batch(1, 4, 6))
	one(t, "\x02\x08\x00\x01\x02\x03\x04\x05\x06\x07", batch(0, 1, 2, 3, 4, 5, 6, 7))
	none(t, "\x02\x01\x08", "\x02\x02\x07\x08", "\x02\x01\x7f", "\x02\x01\x80\x01", "\x02\x09\x00\x01\x02\x03\x04\x05\x06\x07\x08")
	none(t, "\x02\x02\x01\x01", "\x02\x02\x01\x00", "\x02\x03\x00\x02\x01", "\x02\x03\x00\x02\x02", "\x02\x08\x00\x01\x02\x03\x04\x05\x06\x06")
	none(t, "\x02\x00\x00", "\x02\x00\x01", "\x02\x01\x00\x01", "\x02\x01", "\x02\x02\x03", "\x02\x08\x00\x01\x02\x03\x04\x05\x06")
	none(t, "\x02\x80\x00", "\x02\x81\x00\x03", "\x02\x01\x83\x00", "\x02\x80", "\x02\x01\x80", "\x02\x7f", "\x02\x80\x80\x80\x80\x80\x20")
}

func TestReadPicks(t *testing.T) {
	pick := func(of, n int) api.Input { return api.Input{Kind: api.Pick, Of: of, N: n} }
	one(t, "\x03\x02\x00", pick(2, 0))
	one(t, "\x03\x02\x01", pick(2, 1))
	one(t, "\x03\x08\x00", pick(8, 0))
	one(t, "\x03\x08\x07", pick(8, 7))
	none(t, "\x03\x00\x00", "\x03\x01\x00", "\x03\x09\x00", "\x03\x09\x08", "\x03\x7f\x00", "\x03\x80\x01\x00")
	none(t, "\x03\x02\x02", "\x03\x02\x7f", "\x03\x08\x08", "\x03\x02\x80\x01")
	none(t, "\x03\x02", "\x03\x02\x00\x00", "\x03\x02\x01\x01", "\x03\x02\x80", "\x03\x82\x00\x01", "\x03\x02\x81\x00")
}

func TestReadLots(t *testing.T) {
	lot := func(of, n int) api.Input { return api.Input{Kind: api.Lots, Of: of, N: n} }
	one(t, "\x04\x01\x00", lot(1, 0))
	one(t, "\x04\x02\x01", lot(2, 1))
	one(t, "\x04\x80\x01\x7f", lot(128, 127))
	one(t, "\x04\xc0\x84\x3d\x00", lot(api.MaxLot, 0))
	one(t, "\x04\xc0\x84\x3d\xbf\x84\x3d", lot(api.MaxLot, api.MaxLot-1))
	none(t, "\x04\x00\x00", "\x04\xc1\x84\x3d\x00", "\x04\xc1\x84\x3d\xc0\x84\x3d", "\x04\x80\x80\x80\x80\x80\x20\x00")
	none(t, "\x04\x01\x01", "\x04\x02\x02", "\x04\x80\x01\x80\x01", "\x04\xc0\x84\x3d\xc0\x84\x3d", "\x04\x0a\x7f")
	none(t, "\x04\x01", "\x04\x01\x00\x00", "\x04\x0a\x03\x00", "\x04\x0a\x80", "\x04\x8a\x00\x03", "\x04\x0a\x83\x00")
}

func TestReadEnds(t *testing.T) {
	for end := api.Stopped; end <= api.Ended; end++ {
		log := written(string([]byte{api.End, byte(end)}))
		inputs := []api.Input{{Kind: api.End, N: end}}
		reads(t, log, inputs, 10, api.Whole)
		for _, more := range []string{"\x00", "x", "\x80", "RR1", log, frame("\x01\x03"), frame("\x05\x01"), frame("\x06")} {
			reads(t, log+more, inputs, 10, api.Behind)
		}
	}
	none(t, "\x05\x00", "\x05\x06", "\x05\x07", "\x05\x7f", "\x05\x81\x01")
	none(t, "\x05\x01\x00", "\x05\x05\x05", "\x05\x81\x00", "\x05\x85\x00", "\x05\x80")
}
