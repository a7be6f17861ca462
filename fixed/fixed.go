// Package fixed: division to the nearest, roots: see ../shared/doc/01-fixed.md.
package fixed

import "math/bits"

// Round is the whole number nearest to a / b, of two the greater; 0 where b is below 1.
func Round(a, b int64) int64 {
	if b < 1 {
		return 0
	}
	q, r := divide(a, b)
	// Twice r may be beyond an int64; b - r never is.
	if r >= b-r {
		q++
	}
	return q
}

// Down is the greatest whole number that times b is not above a; 0 where b is below 1.
func Down(a, b int64) int64 {
	if b < 1 {
		return 0
	}
	q, _ := divide(a, b)
	return q
}

// divide is a / b down to a whole number, and what is left, 0 to b - 1; b is above 0.
func divide(a, b int64) (int64, int64) {
	q, r := a/b, a%b
	// Go cuts towards 0, which is up where a is below 0.
	if r < 0 {
		q--
		r += b
	}
	return q, r
}

// MulDiv is the whole number nearest to a times b over c, of two the greater;
// 0, false where c is below 1 or that number is beyond an int64.
func MulDiv(a, b, c int64) (int64, bool) {
	if c < 1 {
		return 0, false
	}
	high, low := bits.Mul64(size(a), size(b))
	d := uint64(c)
	// Beyond 64 bits, where bits.Div64 would panic.
	if high >= d {
		return 0, false
	}
	q, r := bits.Div64(high, low, d)
	return signed(q, r, d, (a < 0) != (b < 0))
}

// size is x without its sign; that of the least int64, too.
func size(x int64) uint64 {
	if x < 0 {
		return -uint64(x)
	}
	return uint64(x)
}

// signed is the whole number nearest to q + r / d, of two the greater, or to
// that below 0; 0, false where it is beyond an int64. r is below d, d below 2^63.
func signed(q, r, d uint64, below bool) (int64, bool) {
	const edge = 1 << 63
	// Ahead of the rounding, so that q + 1 does not wrap.
	if q > edge {
		return 0, false
	}
	// Of two, the greater is the one nearer to 0 where the number is below 0.
	if 2*r > d || 2*r == d && !below {
		q++
	}
	// There is one number more below 0 than above it.
	switch {
	case below && q <= edge:
		return int64(-q), true
	case !below && q < edge:
		return int64(q), true
	}
	return 0, false
}

// Sqrt is the greatest number whose square is not above n; 0 where n is below 0.
func Sqrt(n int64) int64 {
	if n < 0 {
		return 0
	}
	root := uint64(0)
	// Bit by bit from the greatest; a square of 32 bits fits into 64.
	for bit := uint64(1) << 31; bit > 0; bit >>= 1 {
		if t := root | bit; t*t <= uint64(n) {
			root = t
		}
	}
	return int64(root)
}

// Clamp is x, but not above hi, then not below lo: lo wins where hi is below it.
func Clamp(x, lo, hi int64) int64 {
	return max(min(x, hi), lo)
}
