// Package sat is layer 1: see shared/doc/01-sat.md.
package sat

import (
	"math"
	"math/bits"
)

// wide is a number of 128 bits in two's complement. A product of two int64
// fits in it, and so does the sum of any list that a program can be given:
// nothing has to be held between the bounds before the whole is known.
type wide struct {
	hi int64
	lo uint64
}

// sum takes everything in before it holds the result: parts that go beyond
// the bounds may come back.
func sum(l ...int64) wide {
	var w wide
	for _, v := range l {
		lo, carry := bits.Add64(w.lo, uint64(v), 0)
		w.lo = lo
		w.hi += v>>63 + int64(carry)
	}
	return w
}

// product is made of unsigned halves: a factor below 0 was taken 2^64 too
// great there, so the other one is taken off the upper half again.
func product(a, b int64) wide {
	hi, lo := bits.Mul64(uint64(a), uint64(b))
	w := wide{int64(hi), lo}
	if a < 0 {
		w.hi -= b
	}
	if b < 0 {
		w.hi -= a
	}
	return w
}

// held is w between the least and the greatest int64. It fits where the upper
// half only goes on with the sign of the lower one.
func (w wide) held() int64 {
	low := int64(w.lo)
	if w.hi == low>>63 {
		return low
	}
	if w.hi < 0 {
		return math.MinInt64
	}
	return math.MaxInt64
}

// Add is a and b together.
func Add(a, b int64) int64 { return sum(a, b).held() }

// Sub is a less b. What is taken off is written as ^b and 1, as -b goes round
// for the least int64.
func Sub(a, b int64) int64 { return sum(a, ^b, 1).held() }

// Mul is a times b.
func Mul(a, b int64) int64 { return product(a, b).held() }

// Neg is 0 less a.
func Neg(a int64) int64 { return Sub(0, a) }

// Abs is the greater one of a and Neg(a).
func Abs(a int64) int64 { return max(a, Neg(a)) }

// Clamp holds a between lo and hi; lo goes first where hi is below it.
func Clamp(a, lo, hi int64) int64 {
	if a < lo {
		return lo
	}
	if a > hi {
		return hi
	}
	return a
}

// Sum is all of l together, held only at the end.
func Sum(l []int64) int64 { return sum(l...).held() }
