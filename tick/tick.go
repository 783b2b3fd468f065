// Package tick is layer 1: see shared/doc/01-tick.md.
package tick

import (
	"math/bits"

	"liftwell/api"
)

// Clamp: see the chapter.
func Clamp(n int) int {
	return min(max(n, 0), api.MaxTime)
}

// Add: see the chapter.
func Add(a, b int) int {
	// Clamped first: two times at most are far below the end of int.
	return Clamp(Clamp(a) + Clamp(b))
}

// Mul: see the chapter.
func Mul(a, b int) int {
	a, b = Clamp(a), Clamp(b)
	// Asked by a division, as the product of two times may be beyond int.
	if a > 0 && b > api.MaxTime/a {
		return api.MaxTime
	}
	return a * b
}

// Late: see the chapter.
func Late(now, until int) bool {
	return Clamp(now) >= Clamp(until)
}

// Pause: see the chapter.
func Pause(base, most, tries int) int {
	// So many doublings bring even 1 above MaxTime: more of them change nothing.
	enough := bits.Len64(api.MaxTime)
	doublings := min(max(tries, 0), enough)
	return min(Mul(base, 1<<doublings), Clamp(most))
}
