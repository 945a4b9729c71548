// Package logs writes what was heard, as the bytes of a log, and reads it.
package logs

import (
	"rerun/api"
	"rerun/code"
)

// head: the bytes with which every log begins.
const head = "RR1"

// The sum's first value, and what it is multiplied by for each byte.
const (
	sumStart  = 2166136261
	sumFactor = 16777619
)

// Writer holds a log as far as it is written.
type Writer struct {
	bytes []byte
}

// NewWriter begins a log.
func NewWriter() *Writer {
	return &Writer{bytes: []byte(head)}
}

// Heard writes the record of an input.
func (w *Writer) Heard(in api.Input) {
	b := body(in)
	w.bytes = appendVarint(w.bytes, len(b))
	w.bytes = append(w.bytes, b...)
	w.bytes = appendSum(w.bytes, b)
}

// End writes the record of the end and answers the whole log.
func (w *Writer) End(end int) string {
	w.Heard(api.Input{Kind: code.HearEnd, N: end})
	return string(w.bytes)
}

func body(in api.Input) []byte {
	b := []byte{byte(in.Kind)}
	switch in.Kind {
	case code.HearBatch:
		b = appendVarint(b, len(in.Files))
		for _, f := range in.Files {
			b = appendVarint(b, f)
		}
	case code.HearPick, code.HearLot:
		b = appendVarint(b, in.Of)
		b = appendVarint(b, in.N)
	default:
		b = appendVarint(b, in.N)
	}
	return b
}

// appendVarint puts the varint of n, which is not below 0, behind b.
func appendVarint(b []byte, n int) []byte {
	for n >= 128 {
		b = append(b, byte(n%128+128))
		n /= 128
	}
	return append(b, byte(n))
}

// appendSum puts the sum of the body behind b.
func appendSum(b, body []byte) []byte {
	s := sum(body)
	return append(b, byte(s>>24), byte(s>>16), byte(s>>8), byte(s))
}

func sum(b []byte) uint32 {
	s := uint32(sumStart)
	for _, x := range b {
		s = (s ^ uint32(x)) * sumFactor
	}
	return s
}
