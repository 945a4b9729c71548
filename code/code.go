// Package code counts the codes of operations and the kinds of inputs and events.
//
// The numbers are those of package api, which spells each of them out; here
// they are counted, so that a table that is indexed by them has no gap and
// knows its own length.
package code

// Codes of operations: 0 is none.
const (
	_ = iota
	Set
	Add
	Arm
	Cancel
	Watch
	Ignore
	Now
	Lot
	Emit
	Skip
	Stop
	Codes // the length of a table by codes
)

// Kinds of inputs. The last one is only ever a record's.
const (
	_ = iota
	HearClock
	HearBatch
	HearPick
	HearLot
	HearEnd
)

// Kinds of events.
const (
	_ = iota
	Fired
	Woke
	Told
)
