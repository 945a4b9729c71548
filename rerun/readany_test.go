package rerun_test

import (
	"encoding/binary"
	"hash/fnv"
	"reflect"
	"slices"
	"strings"
	"testing"

	"rerun/api"
	"rerun/rerun"
)

// plainly is P9 once more, by means of Go's library, to hold Read against.
func plainly(log string) ([]api.Input, int, int) {
	if !strings.HasPrefix(log, "RR1") {
		if slices.Contains([]string{"", "R", "RR"}, log) {
			return nil, 0, api.Torn
		}
		return nil, 0, api.Malformed
	}
	var out []api.Input
	for at := 3; ; {
		rest := []byte(log[at:])
		n, size := binary.Uvarint(rest)
		switch {
		case size == 0 && len(rest) < 2:
			return out, at, api.Torn
		case size <= 0 || n < 1 || n > 40 || size != 1:
			return out, at, api.Malformed
		case len(rest) < 1+int(n)+4:
			return out, at, api.Torn
		}
		body, rest := rest[1:1+n], rest[1+n:]
		hash := fnv.New32a()
		hash.Write(body)
		if binary.BigEndian.Uint32(rest) != hash.Sum32() {
			return out, at, api.Bad
		}
		in, ok := plainBody(body)
		if !ok {
			return out, at, api.Malformed
		}
		out = append(out, in)
		at += 1 + int(n) + 4
		switch {
		case in.Kind != api.End:
		case len(rest) == 4:
			return out, at, api.Whole
		default:
			return out, at, api.Behind
		}
	}
}

// plainBody makes an input of whatever the bytes say, and asks whether that is
// one and has just these bytes.
func plainBody(body []byte) (api.Input, bool) {
	var numbers []int
	for rest := body[1:]; len(rest) > 0; {
		n, size := binary.Uvarint(rest)
		if size <= 0 || n > api.MaxClock {
			return api.Input{}, false
		}
		numbers = append(numbers, int(n))
		rest = rest[size:]
	}
	again := body[:1:1]
	for _, n := range numbers {
		again = binary.AppendUvarint(again, uint64(n))
	}
	if len(again) != len(body) || len(numbers) == 0 {
		return api.Input{}, false
	}
	in := api.Input{Kind: int(body[0])}
	first, last := numbers[0], numbers[len(numbers)-1]
	switch in.Kind {
	case api.Clock:
		in.N = first
		return in, len(numbers) == 1
	case api.End:
		in.N = first
		return in, len(numbers) == 1 && first > 0 && first < 6
	case api.Batch:
		in.Files = numbers[1:]
		once := slices.Compact(slices.Sorted(slices.Values(in.Files)))
		return in, first == len(in.Files) && slices.Equal(once, in.Files) && (first == 0 || last < 8)
	case api.Pick:
		in.Of, in.N = first, last
		return in, len(numbers) == 2 && first > 1 && first < 9 && last < first
	case api.Lots:
		in.Of, in.N = first, last
		return in, len(numbers) == 2 && first < 1000001 && last < first
	}
	return in, false
}

// agrees: Read answers as plainly does, and this why; it stops the test if
// not, since one log tells as much as thousands.
func agrees(t *testing.T, log string) int {
	t.Helper()
	got, gotAt, gotWhy := rerun.Read(log)
	want, at, why := plainly(log)
	if !slices.EqualFunc(got, want, sameInput) || gotAt != at || gotWhy != why {
		t.Fatalf("P9: Read(%x) = %+v, %d, %d; want %+v, %d, %d", log, got, gotAt, gotWhy, want, at, why)
	}
	return why
}

// TestReadShortBodies: all bodies of one and two bytes, and longer ones of the
// bytes at which something changes.
func TestReadShortBodies(t *testing.T) {
	for a := range 256 {
		agrees(t, written(string([]byte{byte(a)})))
		for b := range 256 {
			agrees(t, written(string([]byte{byte(a), byte(b)})))
		}
	}
	edges := "\x00\x01\x02\x03\x07\x08\x09\x7f\x80\x81\xff"
	for kind := range 7 {
		longer := []string{string([]byte{byte(kind)})}
		for range 4 {
			var next []string
			for _, body := range longer {
				for i := range len(edges) {
					next = append(next, body+edges[i:i+1])
					agrees(t, written(body+edges[i:i+1]))
				}
			}
			longer = next
		}
	}
}

// body: of a kind or none, with varints of any numbers, at times spoilt.
func (d dice) body() string {
	b := []byte{byte(d.IntN(7))}
	for range d.IntN(4) {
		b = binary.AppendUvarint(b, uint64(d.number()))
	}
	if d.IntN(8) == 0 {
		b = append(b, byte(d.IntN(256)))
	}
	return string(b[:min(len(b), 40)])
}

func (d dice) bytes(most int) string {
	b := make([]byte, d.IntN(most+1))
	for i := range b {
		b[i] = byte(d.IntN(256))
	}
	return string(b)
}

// spoilt: a log that was right, changed in a place or two.
func (d dice) spoilt(log string) string {
	b := []byte(log)
	for range 1 + d.IntN(2) {
		at := d.IntN(len(b) + 1)
		switch d.IntN(4) {
		case 0:
			b = slices.Insert(b, at, byte(d.IntN(256)))
		case 1:
			b = slices.Delete(b, at, min(at+d.IntN(3), len(b)))
		case 2:
			b = b[:at]
		case 3:
			b = append(b, d.bytes(3)...)
		}
	}
	return string(b)
}

func TestReadAnything(t *testing.T) {
	d := newDice(6)
	var whys [6]int
	for range 20000 {
		agrees(t, d.bytes(12))
		agrees(t, "RR1"+d.bytes(60))
		whys[agrees(t, written(d.body(), d.body(), d.body()))]++
		log, _, _, _ := rerun.Record(d.right(), d.world(), 1+d.IntN(60))
		agrees(t, log)
		whys[agrees(t, d.spoilt(log))]++
	}
	for why := api.Whole; why <= api.Behind; why++ {
		if whys[why] < 20 {
			t.Errorf("why %d came %d times: the test has grown blind", why, whys[why])
		}
	}
}

// FuzzRead takes the seeds alone, unless go test is told to fuzz.
func FuzzRead(f *testing.F) {
	p, w := example()
	log, _, _, _ := rerun.Record(p, w, 100)
	for _, s := range []string{"", "RR1", "RR1\x80", log, log + "x", log[:20], "\x01\x03", "\x02\x01\x07"} {
		f.Add(s, s)
	}
	f.Fuzz(func(t *testing.T, log, body string) {
		agrees(t, log)
		agrees(t, "RR1"+log)
		if len(body) < 41 {
			agrees(t, written(body, "\x05\x01"))
		}
	})
}

// TestReadAgreesWithFinal: the inputs that were heard, and the end.
func TestReadAgreesWithFinal(t *testing.T) {
	d := newDice(7)
	for range 3000 {
		log, _, final, _ := rerun.Record(d.right(), d.world(), 1+d.IntN(200))
		inputs, at, why := rerun.Read(log)
		if len(inputs) != final.Heard+1 || at != len(log) || why != api.Whole {
			t.Fatalf("P9: %d inputs, %d, %d of %d bytes, %+v", len(inputs), at, why, len(log), final)
		}
		if end := inputs[final.Heard]; !sameInput(end, api.Input{Kind: api.End, N: final.End}) {
			t.Fatalf("P9: the end %+v of %+v", end, final)
		}
	}
}

// TestReadBeginnings: the first bytes of a log, however many, tell as much as
// they have.
func TestReadBeginnings(t *testing.T) {
	d := newDice(8)
	for range 200 {
		log, _, _, _ := rerun.Record(d.right(), d.world(), 1+d.IntN(60))
		all, _, _ := rerun.Read(log)
		places := []int{3}
		for _, b := range bodies(log) {
			places = append(places, places[len(places)-1]+len(b)+5)
		}
		for cut := 3; cut < len(log); cut++ {
			has := 0
			for places[has+1] <= cut {
				has++
			}
			reads(t, log[:cut], all[:has], places[has], api.Torn)
		}
	}
}

// TestReadTurnedBits: what is ahead of the record with the bit is read as
// before, and nothing of what is behind.
func TestReadTurnedBits(t *testing.T) {
	d := newDice(9)
	for range 40 {
		log, _, _, _ := rerun.Record(d.right(), d.world(), 1+d.IntN(60))
		all, _, _ := rerun.Read(log)
		start := 3
		for n, b := range bodies(log) {
			for at := start; at < start+len(b)+5; at++ {
				for bit := range 8 {
					turned := []byte(log)
					turned[at] ^= 1 << bit
					got, place, why := rerun.Read(string(turned))
					if !slices.EqualFunc(got, all[:n], sameInput) || place != start || why == api.Whole || why == api.Behind {
						t.Fatalf("P9: bit %d of byte %d of %x: %+v, %d, %d", bit, at, log, got, place, why)
					}
				}
			}
			start += len(b) + 5
		}
	}
}

// TestReadListsAreApart: each list is the caller's to its last spare room.
func TestReadListsAreApart(t *testing.T) {
	files := []string{"\x02\x02\x00\x01", "\x02\x00", "\x02\x01\x03", "\x02\x03\x04\x05\x06", "\x02\x08\x00\x01\x02\x03\x04\x05\x06\x07"}
	log := written(append(files, "\x05\x01")...)
	inputs, _, _ := rerun.Read(log)
	for i := range inputs {
		again, _, _ := rerun.Read(log)
		list := inputs[i].Files[:cap(inputs[i].Files)]
		for j := range list {
			list[j] = 99
		}
		for j := i + 1; j < len(inputs); j++ {
			if !reflect.DeepEqual(inputs[j], again[j]) {
				t.Errorf("P2: %+v became %+v with the one at %d", again[j], inputs[j], i)
			}
		}
		if !slices.Equal(again[0].Files, []int{0, 1}) {
			t.Errorf("P2: a call's answer %v hangs on an earlier one", again[0].Files)
		}
	}
	clear(inputs[:cap(inputs)])
	reads(t, log[:len(log)-7], []api.Input{
		{Kind: api.Batch, Files: []int{0, 1}}, {Kind: api.Batch}, {Kind: api.Batch, Files: []int{3}},
		{Kind: api.Batch, Files: []int{4, 5, 6}}, {Kind: api.Batch, Files: []int{0, 1, 2, 3, 4, 5, 6, 7}},
	}, len(log)-7, api.Torn)
}

// TestReadSpareRoom: what lies behind a list, up to its capacity, is new too.
func TestReadSpareRoom(t *testing.T) {
	log := written("\x02\x03\x01\x02\x03", "\x02\x03\x04\x05\x06", "\x02\x05\x00\x01\x02\x03\x04", "\x01\x03", "\x05\x01")
	inputs, _, _ := rerun.Read(log)
	for _, in := range inputs {
		for _, n := range in.Files[len(in.Files):cap(in.Files)] {
			if n != 0 {
				t.Errorf("P2: %d lies behind %v", n, in.Files)
			}
		}
	}
	for _, in := range inputs[len(inputs):cap(inputs)] {
		if !sameInput(in, api.Input{}) {
			t.Errorf("P2: %+v lies behind the inputs", in)
		}
	}
}

func TestReadLong(t *testing.T) {
	const many = 200000
	log := "RR1" + strings.Repeat(frame("\x01\x03"), many)
	inputs, at, why := rerun.Read(log)
	if len(inputs) != many || at != len(log) || why != api.Torn {
		t.Errorf("P1: %d inputs, %d, %d", len(inputs), at, why)
	}
}

func TestReadAtOnce(t *testing.T) {
	d := newDice(10)
	log, _, _, _ := rerun.Record(d.right(), d.world(), 500)
	want, _, _ := rerun.Read(log)
	got := make(chan []api.Input)
	for range 16 {
		go func() {
			inputs, _, _ := rerun.Read(log)
			got <- inputs
		}()
	}
	for range 16 {
		if inputs := <-got; !slices.EqualFunc(inputs, want, sameInput) {
			t.Errorf("P2: %+v, want %+v", inputs, want)
		}
	}
}
