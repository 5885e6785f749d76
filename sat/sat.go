// Package sat is layer 1: see shared/doc/01-sat.md.
package sat

import "empennage/api"

// Cut is the number of a tick that is nearest to n.
func Cut(n int) int { return within(n, 0, api.MaxTick) }

// Add is the sum of both, cut.
func Add(a, b int) int {
	a, b = Cut(a), Cut(b)
	// The sum itself is not made first: that of two greatest ticks is no int.
	if b > api.MaxTick-a {
		return api.MaxTick
	}
	return a + b
}

// Sub is the difference of both, cut.
func Sub(a, b int) int { return Cut(Cut(a) - Cut(b)) }

// Mul is the product of both, cut.
func Mul(a, b int) int {
	a, b = Cut(a), Cut(b)
	// The product itself is not made first: it may be no int.
	if a > 0 && b > api.MaxTick/a {
		return api.MaxTick
	}
	return a * b
}

// Age is how long ago stamp was.
func Age(now, stamp int) int { return Sub(now, stamp) }

// Late tells whether now is no less than at.
func Late(now, at int) bool { return Cut(now) >= Cut(at) }

// Phase is how many ticks of its frame are over.
func Phase(now, frame int) int { return Cut(now) % ticksOf(frame) }

// Round is how many frames are over.
func Round(now, frame int) int { return Cut(now) / ticksOf(frame) }

// Next is the first tick from now on that has the phase.
func Next(now, frame, phase int) int {
	frame = ticksOf(frame)
	ahead := within(phase, 0, frame-1) - Phase(now, frame)
	if ahead < 0 {
		// This frame's tick of that phase is over: the next frame's is meant.
		ahead += frame
	}
	return Add(now, ahead)
}

// ticksOf is how many ticks a frame has that is asked for by any number.
func ticksOf(frame int) int { return within(frame, 1, api.MaxFrame) }

// within is n, or the nearer end if n lies out of least to most.
func within(n, least, most int) int {
	if n < least {
		return least
	}
	if n > most {
		return most
	}
	return n
}
