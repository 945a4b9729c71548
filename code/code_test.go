package code

import (
	"testing"

	"rerun/api"
)

// The counted numbers must be those of package api, or a table by them would
// answer for another code.
func TestNumbersAreThoseOfAPI(t *testing.T) {
	for _, c := range []struct {
		name      string
		got, want int
	}{
		{"Set", Set, api.Set}, {"Add", Add, api.Add}, {"Arm", Arm, api.Arm},
		{"Cancel", Cancel, api.Cancel}, {"Watch", Watch, api.Watch}, {"Ignore", Ignore, api.Ignore},
		{"Now", Now, api.Now}, {"Lot", Lot, api.Lot}, {"Emit", Emit, api.Emit},
		{"Skip", Skip, api.Skip}, {"Stop", Stop, api.Stop}, {"Codes", Codes, api.Stop + 1},
		{"HearClock", HearClock, api.Clock}, {"HearBatch", HearBatch, api.Batch},
		{"HearPick", HearPick, api.Pick}, {"HearLot", HearLot, api.Lots}, {"HearEnd", HearEnd, api.End},
		{"Fired", Fired, api.Fired}, {"Woke", Woke, api.Woke}, {"Told", Told, api.Told},
	} {
		if c.got != c.want {
			t.Errorf("%s = %d, want %d", c.name, c.got, c.want)
		}
	}
}
