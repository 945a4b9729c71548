package logs

import (
	"iter"
	"strings"

	"rerun/api"
	"rerun/code"
)

const (
	// longestBody is the greatest length that a record may tell.
	longestBody = 40
	// longestVarint: so many bytes has that of MaxClock, and no body has a
	// greater number. The limit keeps a varint from running out of an int.
	longestVarint = 6
	sumBytes      = 4
)

// right: nothing is wrong with a log, as far as it was looked at.
const right = 0

// Reader goes through a log and keeps how far it is right.
type Reader struct {
	log string
	at  int
	why int
}

// NewReader makes a reader that has gone through nothing yet.
func NewReader(log string) *Reader {
	return &Reader{log: log}
}

// Inputs goes through the log, record by record, and stops at the first one
// that is wrong. Whoever ranges over it may stop sooner; who ranges over it
// once more begins at the first record again.
func (r *Reader) Inputs() iter.Seq[api.Input] {
	return func(yield func(api.Input) bool) {
		r.at, r.why = beginning(r.log)
		for r.why == right {
			in, size, why := record(r.log[r.at:])
			if why != right {
				r.why = why
				return
			}
			r.at += size
			if in.Kind == code.HearEnd {
				r.why = behind(r.log[r.at:])
			}
			if !yield(in) {
				return
			}
		}
	}
}

// Ends answers where the right beginning of the log ends, and why. If the log
// was not gone through to there, it is as far as it was, and 0.
func (r *Reader) Ends() (at, why int) { return r.at, r.why }

// beginning answers where the first record begins, or why there is none.
func beginning(log string) (at, why int) {
	switch {
	case strings.HasPrefix(log, head):
		return len(head), right
	case strings.HasPrefix(head, log):
		return 0, api.Torn
	}
	return 0, api.Malformed
}

// record answers the input of the record with which s begins and how many
// bytes it has; or why there is none.
func record(s string) (in api.Input, size, why int) {
	n, why := length(s)
	if why != right {
		return api.Input{}, 0, why
	}
	size = 1 + n + sumBytes
	if len(s) < size {
		return api.Input{}, 0, api.Torn
	}
	b := s[1 : 1+n]
	if string(appendSum(nil, []byte(b))) != s[1+n:size] {
		return api.Input{}, 0, api.Bad
	}
	in, ok := input(b)
	if !ok {
		return api.Input{}, 0, api.Malformed
	}
	return in, size, right
}

// length answers how many bytes the body of a record has. It never needs to
// look behind the first byte: a varint of more of them is of a number above
// 40, or not in its shortest form.
func length(s string) (n, why int) {
	switch {
	case s == "" || s[0] >= 128 && len(s) == 1:
		return 0, api.Torn
	case s[0] < 1 || s[0] > longestBody:
		return 0, api.Malformed
	}
	return int(s[0]), right
}

// behind tells why the right beginning ends behind a record of the end: it
// does so whatever follows.
func behind(rest string) int {
	if rest != "" {
		return api.Behind
	}
	return api.Whole
}

// input answers what a body tells, and false if it is none.
func input(body string) (api.Input, bool) {
	n, ok := varints(body[1:])
	if !ok {
		return api.Input{}, false
	}
	kind := int(body[0])
	switch {
	case kind == code.HearClock && len(n) == 1:
		return api.Input{Kind: kind, N: n[0]}, n[0] <= api.MaxClock
	case kind == code.HearBatch && len(n) > 0:
		return api.Input{Kind: kind, Files: append([]int(nil), n[1:]...)}, n[0] == len(n)-1 && rising(n[1:])
	case kind == code.HearPick && len(n) == 2:
		return api.Input{Kind: kind, Of: n[0], N: n[1]}, within(n[0], 2, api.MaxFiles) && n[1] < n[0]
	case kind == code.HearLot && len(n) == 2:
		return api.Input{Kind: kind, Of: n[0], N: n[1]}, within(n[0], 1, api.MaxLot) && n[1] < n[0]
	case kind == code.HearEnd && len(n) == 1:
		return api.Input{Kind: kind, N: n[0]}, within(n[0], api.Stopped, api.Ended)
	}
	return api.Input{}, false
}

func within(n, least, most int) bool { return least <= n && n <= most }

// rising tells whether the files of a batch are ones, and in order.
func rising(files []int) bool {
	last := -1
	for _, f := range files {
		if f <= last || f >= api.MaxFiles {
			return false
		}
		last = f
	}
	return true
}

// varints answers the numbers of which s is the varints, with nothing left
// over, and false if it is not so.
func varints(s string) ([]int, bool) {
	var out []int
	for s != "" {
		n, size := varint(s)
		if size == 0 {
			return nil, false
		}
		out = append(out, n)
		s = s[size:]
	}
	return out, true
}

// varint answers the number with whose varint s begins and how many bytes that
// has: 0, if it is not whole, not in its shortest form, or too long.
func varint(s string) (n, size int) {
	for i := range min(len(s), longestVarint) {
		n += int(s[i]%128) << (7 * i)
		if s[i] >= 128 {
			continue
		}
		if s[i] == 0 && i > 0 {
			return 0, 0
		}
		return n, i + 1
	}
	return 0, 0
}
