// Package span is layer 1: see shared/doc/01-span.md.
package span

import (
	"handshaker/api"
)

// Right: is it a value?
func Right(n int) bool {
	return -api.MaxValue-1 <= n && n <= api.MaxValue
}

// Wrap: the value to which n goes round.
func Wrap(n int) int {
	// Values are just what an int32 holds, and Go converts to it modulo 2^32.
	return int(int32(n))
}

// Add: the value to which the sum goes round.
func Add(a, b int) int {
	return Wrap(Wrap(a) + Wrap(b))
}

// Sub: the value to which the difference goes round.
func Sub(a, b int) int {
	return Wrap(Wrap(a) - Wrap(b))
}

// Mul: the value to which the product goes round.
func Mul(a, b int) int {
	return Wrap(Wrap(a) * Wrap(b))
}

// Truth: 1, if b is true, else 0.
func Truth(b bool) int {
	if b {
		return 1
	}
	return 0
}
