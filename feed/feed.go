// Package feed makes the channels through which inputs come to the loop.
package feed

// Filled has room for the whole list and is closed behind its last: no sender
// needs to wait for the loop, and none is left behind when the run ends early.
func Filled[T any](list []T) <-chan T {
	c := make(chan T, len(list))
	for _, x := range list {
		c <- x
	}
	close(c)
	return c
}
