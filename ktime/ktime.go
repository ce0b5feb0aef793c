// Package ktime is layer 1: times that stop at the greatest.
package ktime

import (
	"math/bits"

	"fusee/api"
)

// Clamp is the time that a number counts as.
func Clamp(t int) int { return min(max(t, -api.MaxTime), api.MaxTime) }

// Never asks whether a time never comes.
func Never(t int) bool { return t >= api.MaxTime }

// Add is a sum. What never comes stays so, even if b is below 0.
func Add(a, b int) int {
	if Never(a) {
		return api.MaxTime
	}
	// Two clamped times are at most 2^63 - 2 together: the sum can't wrap.
	return Clamp(Clamp(a) + Clamp(b))
}

// Sub is a difference. What never comes stays so, even if b never comes either.
func Sub(a, b int) int { return Add(a, -Clamp(b)) }

// Mul is a product. The factor n isn't a time, and isn't clamped.
func Mul(a, n int) int {
	a = Clamp(a)
	high, low := bits.Mul64(size(a), size(n))
	if high > 0 || low > api.MaxTime {
		low = api.MaxTime
	}
	if (a < 0) != (n < 0) {
		return -int(low)
	}
	return int(low)
}

// size is how far n is from 0; it is taken without a sign, as the least int has no opposite.
func size(n int) uint64 {
	if n < 0 {
		return -uint64(n)
	}
	return uint64(n)
}

// Until is how long it is to a time.
func Until(now, t int) int { return max(Sub(t, now), 0) }

// First is the least time; never, if there are none.
func First(l ...int) int {
	least := api.MaxTime
	for _, t := range l {
		least = min(least, Clamp(t))
	}
	return least
}

// Between keeps a time within two; the upper one counts, if they are crossed.
func Between(low, t, high int) int {
	return min(max(Clamp(t), Clamp(low)), Clamp(high))
}
