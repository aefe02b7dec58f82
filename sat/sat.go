// Package sat is layer 1: numbers from 0 to 2^62 that do not run over. See shared/doc/01-sat.md.
package sat

import "annona/api"

// Fit is x as a number: 0 if it is below, 2^62 if it is above.
func Fit(x int) int {
	return Clamp(x, 0, api.Forever)
}

// Add is the sum of numbers, as a number; of none it is 0.
func Add(l ...int) int {
	sum := 0
	for _, x := range l {
		// Held against the room that is left, since twice 2^62 is beyond the greatest int.
		n := Fit(x)
		if n > api.Forever-sum {
			return api.Forever
		}
		sum += n
	}
	return sum
}

// Sub is one number less another one, as a number.
func Sub(a, b int) int {
	return Fit(Fit(a) - Fit(b))
}

// Mul is the product of two numbers, as a number.
func Mul(a, b int) int {
	a, b = Fit(a), Fit(b)
	// Asked by a division, since the product itself may wrap round to anything.
	if a > 0 && b > api.Forever/a {
		return api.Forever
	}
	return a * b
}

// Ceil is one number by another one, rounded up; 2^62, if that other one is 0.
func Ceil(a, b int) int {
	a, b = Fit(a), Fit(b)
	if b == 0 {
		return api.Forever
	}
	// Not (a + b - 1) / b, whose sum may be beyond the greatest int.
	q := a / b
	if a%b > 0 {
		q++
	}
	return q
}

// Clamp is x, if it is from lo to hi; else the bound that it is beyond. It takes any ints.
func Clamp(x, lo, hi int) int {
	// With bounds the wrong way round lo holds, whatever x is.
	if x < lo || hi < lo {
		return lo
	}
	if x > hi {
		return hi
	}
	return x
}
