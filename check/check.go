// Package check tells whether a program is one.
package check

import (
	"slices"

	"rerun/api"
	"rerun/code"
)

// What an operand means.
const (
	unused = iota
	register
	timer
	file
	bound
)

// operands: what A and B of an operation mean. A number that may be any is
// unused here: there is nothing to look at.
type operands struct {
	a, b int
}

var meanings = [code.Codes]operands{
	code.Set:    {register, unused},
	code.Add:    {register, register},
	code.Arm:    {timer, register},
	code.Cancel: {timer, unused},
	code.Watch:  {file, unused},
	code.Ignore: {file, unused},
	code.Now:    {register, unused},
	code.Lot:    {register, bound},
	code.Emit:   {register, unused},
	code.Skip:   {register, unused},
	code.Stop:   {unused, unused},
}

// Program answers the first error that applies to the whole of p, or OK.
func Program(p api.Program) api.Errno {
	switch {
	case len(p.Timers) > api.MaxTimers:
		return api.ErrTimers
	case len(p.Files) > api.MaxFiles:
		return api.ErrFiles
	}
	handlers := slices.Concat([][]api.Op{p.Start}, p.Timers, p.Files)
	// A long handler goes ahead of a wrong operation, wherever the two stand.
	for _, ops := range handlers {
		if len(ops) > api.MaxOps {
			return api.ErrOps
		}
	}
	for _, ops := range handlers {
		for _, op := range ops {
			if !right(op, p) {
				return api.ErrOp
			}
		}
	}
	return api.OK
}

func right(op api.Op, p api.Program) bool {
	if op.Code < code.Set || op.Code >= code.Codes {
		return false
	}
	meant := meanings[op.Code]
	return fits(op.A, meant.a, p) && fits(op.B, meant.b, p)
}

func fits(n, meaning int, p api.Program) bool {
	switch meaning {
	case register:
		return 0 <= n && n < api.Registers
	case timer:
		return 0 <= n && n < len(p.Timers)
	case file:
		return 0 <= n && n < len(p.Files)
	case bound:
		return 1 <= n && n <= api.MaxLot
	}
	return true
}
