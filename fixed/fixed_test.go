package fixed

import (
	"math"
	"math/big"
	"testing"
)

const (
	least    = math.MinInt64
	greatest = math.MaxInt64
	maxRoot  = 3037000499 // the root of the greatest int64
)

// edges are numbers around which the answers change: 0, powers of two and of
// ten, roots, the ends of an int64, and some between.
func edges() []int64 {
	out := []int64{0, least, least + 1, least + 2, greatest, greatest - 1, greatest - 2, greatest / 2, greatest/2 + 1, greatest / 3, least / 2, least/2 - 1, least / 3}
	for _, m := range []int64{1, 2, 3, 5, 7, 10, 255, 257, 65535, 552285, 1000000, 1 << 31, 1<<32 - 1, maxRoot, 1000000007, 1 << 40, 1 << 61, 1 << 62} {
		for d := int64(-1); d <= 1; d++ {
			out = append(out, m+d, -m+d)
		}
	}
	return out
}

// nearest is what the document's word says: the floor of (2 n + d) / (2 d).
func nearest(n, d *big.Int) *big.Int {
	two := big.NewInt(2)
	top := new(big.Int).Mul(n, two)
	top.Add(top, d)
	return floor(top, new(big.Int).Mul(d, two))
}

// floor is n / d down to a whole number: Div of package big is so for d above 0.
func floor(n, d *big.Int) *big.Int { return new(big.Int).Div(n, d) }

func wantDivide(a, b int64) (round, down int64) {
	if b < 1 {
		return 0, 0
	}
	n, d := big.NewInt(a), big.NewInt(b)
	return nearest(n, d).Int64(), floor(n, d).Int64()
}

func wantMulDiv(a, b, c int64) (int64, bool) {
	if c < 1 {
		return 0, false
	}
	n := new(big.Int).Mul(big.NewInt(a), big.NewInt(b))
	if q := nearest(n, big.NewInt(c)); q.IsInt64() {
		return q.Int64(), true
	}
	return 0, false
}

func checkDivide(t *testing.T, a, b int64) {
	t.Helper()
	round, down := wantDivide(a, b)
	if got := Round(a, b); got != round {
		t.Errorf("Round(%d, %d): %d, not %d", a, b, got, round)
	}
	if got := Down(a, b); got != down {
		t.Errorf("Down(%d, %d): %d, not %d", a, b, got, down)
	}
}

func checkMulDiv(t *testing.T, a, b, c int64) {
	t.Helper()
	want, is := wantMulDiv(a, b, c)
	if got, ok := MulDiv(a, b, c); got != want || ok != is {
		t.Errorf("MulDiv(%d, %d, %d): %d, %t, not %d, %t", a, b, c, got, ok, want, is)
	}
}

func checkSqrt(t *testing.T, n int64) {
	t.Helper()
	want := int64(0)
	if n > 0 {
		want = new(big.Int).Sqrt(big.NewInt(n)).Int64()
	}
	if got := Sqrt(n); got != want {
		t.Errorf("Sqrt(%d): %d, not %d", n, got, want)
	}
}

// P1.1
func TestRound(t *testing.T) {
	for _, x := range []struct{ a, b, want int64 }{
		{-1, 2, 0}, // the document's example
		{7, 3, 2}, {8, 3, 3}, {-7, 3, -2}, {-8, 3, -3}, {6, 3, 2}, {-6, 3, -2}, {0, 5, 0}, {9, 1, 9},
		{1, 2, 1}, {3, 2, 2}, {5, 2, 3}, {-3, 2, -1}, {-5, 2, -2}, {5, 10, 1}, {-5, 10, 0}, {15, 10, 2}, {-15, 10, -1},
		{4, 10, 0}, {6, 10, 1}, {-4, 10, 0}, {-6, 10, -1},
		{greatest, 1, greatest}, {least, 1, least}, {greatest, 2, 1 << 62}, {least, 2, -1 << 62}, {least + 1, 2, -1<<62 + 1},
		{greatest, greatest, 1}, {least, greatest, -1}, {greatest / 2, greatest, 0}, {greatest/2 + 1, greatest, 1}, {-greatest/2 - 1, greatest, -1}, {-greatest / 2, greatest, 0},
		{1 << 61, 1 << 62, 1}, {-1 << 61, 1 << 62, 0},
		{5, 0, 0}, {5, -1, 0}, {-5, -2, 0}, {greatest, least, 0}, {least, -1, 0}, {least, 0, 0}, {least, least, 0}, {0, 0, 0},
	} {
		if got := Round(x.a, x.b); got != x.want {
			t.Errorf("Round(%d, %d): %d, not %d", x.a, x.b, got, x.want)
		}
	}
}

// P1.1
func TestDown(t *testing.T) {
	for _, x := range []struct{ a, b, want int64 }{
		{7, 3, 2}, {8, 3, 2}, {-7, 3, -3}, {-8, 3, -3}, {6, 3, 2}, {-6, 3, -2}, {0, 5, 0}, {9, 1, 9},
		{1, 2, 0}, {-1, 2, -1}, {3, 2, 1}, {-3, 2, -2},
		{greatest, 1, greatest}, {least, 1, least}, {greatest, 2, 1<<62 - 1}, {least, 2, -1 << 62}, {least + 1, 2, -1 << 62},
		{greatest, greatest, 1}, {greatest - 1, greatest, 0}, {least, greatest, -2}, {least + 1, greatest, -1}, {-1, greatest, -1},
		{5, 0, 0}, {5, -1, 0}, {-5, -2, 0}, {greatest, least, 0}, {least, -1, 0}, {least, 0, 0}, {least, least, 0}, {0, 0, 0},
	} {
		if got := Down(x.a, x.b); got != x.want {
			t.Errorf("Down(%d, %d): %d, not %d", x.a, x.b, got, x.want)
		}
	}
}

// P1.1: all small numbers, and each edge over each edge.
func TestDivideAgainstBig(t *testing.T) {
	for a := int64(-60); a <= 60; a++ {
		for b := int64(-3); b <= 25; b++ {
			checkDivide(t, a, b)
		}
	}
	for _, a := range edges() {
		for _, b := range edges() {
			checkDivide(t, a, b)
		}
	}
}

// P1.1
func TestMulDiv(t *testing.T) {
	for _, x := range []struct {
		a, b, c, want int64
		is            bool
	}{
		{6, 7, 2, 21, true}, {7, 1, 3, 2, true}, {8, 1, 3, 3, true}, {-8, 1, 3, -3, true}, {0, 9, 4, 0, true}, {0, 0, 1, 0, true},
		// halves, whichever sign makes them
		{1, 1, 2, 1, true}, {-1, 1, 2, 0, true}, {1, -1, 2, 0, true}, {-1, -1, 2, 1, true}, {-3, 1, 2, -1, true}, {3, -5, 2, -7, true}, {3, 5, 2, 8, true},
		// a product beyond an int64, an answer that is not
		{1 << 40, 1 << 40, 1 << 20, 1 << 60, true}, {1 << 40, -1 << 40, 1 << 20, -1 << 60, true}, {greatest, greatest, greatest, greatest, true}, {least, greatest, greatest, least, true}, {greatest, 2, 4, 1 << 62, true}, {greatest, -2, 4, -1<<62 + 1, true},
		// the ends, and just behind them
		{least, 1, 1, least, true}, {1, least, 1, least, true}, {least, -1, 1, 0, false}, {-1, least, 1, 0, false}, {1 << 40, -1 << 40, 1 << 17, least, true}, {1 << 40, 1 << 40, 1 << 17, 0, false}, {1 << 40, -1 << 40, 1 << 16, 0, false},
		{greatest, 1, 1, greatest, true}, {greatest, -1, 1, -greatest, true}, {greatest, 2, 1, 0, false}, {least, 2, 1, 0, false}, {greatest, 3, 2, 0, false},
		// only the rounding leads to an end, or behind it: 2^63 less a half, a third, two thirds; more by these; below 0 too
		{1<<32 - 1, 1<<32 + 1, 2, 0, false}, {-(1<<32 - 1), 1<<32 + 1, 2, least + 1, true},
		{311, 88971434439113593, 3, 0, false}, {-311, 88971434439113593, 3, least, true},
		{22, 1257732550480196701, 3, greatest, true}, {22, -1257732550480196701, 3, least + 1, true},
		{274177, 67280421310721, 2, 0, false}, {274177, -67280421310721, 2, least, true},
		{991975, 27893965181143, 3, 0, false}, {-991975, 27893965181143, 3, least, true},
		{29050910018, 952469857, 3, 0, false}, {29050910018, -952469857, 3, 0, false},
		// 2^64 less a half, on either side
		{253921, 145295143558111, 2, 0, false}, {-253921, 145295143558111, 2, 0, false},
		// an answer of more than 64 bits, up to 2^126
		{least, least, 1, 0, false}, {least, greatest, 1, 0, false}, {least, least, greatest, 0, false}, {least, least, 2, 0, false}, {greatest, greatest, 2, 0, false}, {1 << 62, 4, 1, 0, false}, {1 << 62, -4, 1, 0, false},
		// c that is none
		{5, 5, 0, 0, false}, {5, 5, -1, 0, false}, {0, 0, 0, 0, false}, {6, 7, least, 0, false}, {least, least, least, 0, false}, {least, 1, -1, 0, false},
	} {
		if got, is := MulDiv(x.a, x.b, x.c); got != x.want || is != x.is {
			t.Errorf("MulDiv(%d, %d, %d): %d, %t, not %d, %t", x.a, x.b, x.c, got, is, x.want, x.is)
		}
	}
}

// P1.1: all small numbers, and each edge times each edge over each edge.
func TestMulDivAgainstBig(t *testing.T) {
	for a := int64(-12); a <= 12; a++ {
		for b := int64(-12); b <= 12; b++ {
			for c := int64(-2); c <= 12; c++ {
				checkMulDiv(t, a, b, c)
			}
		}
	}
	for _, a := range edges() {
		for _, b := range edges() {
			for _, c := range edges() {
				checkMulDiv(t, a, b, c)
			}
		}
	}
}

// P1.1
func TestSqrt(t *testing.T) {
	for _, x := range []struct{ n, want int64 }{
		{0, 0}, {1, 1}, {2, 1}, {3, 1}, {4, 2}, {8, 2}, {9, 3}, {99, 9}, {100, 10}, {1000000, 1000}, {999999, 999},
		{1 << 60, 1 << 30}, {1<<60 - 1, 1<<30 - 1}, {1 << 62, 1 << 31}, {1<<62 - 1, 1<<31 - 1},
		{greatest, maxRoot}, {maxRoot * maxRoot, maxRoot}, {maxRoot*maxRoot - 1, maxRoot - 1},
		{-1, 0}, {-4, 0}, {least, 0}, {least + 1, 0},
	} {
		if got := Sqrt(x.n); got != x.want {
			t.Errorf("Sqrt(%d): %d, not %d", x.n, got, x.want)
		}
	}
}

// P1.1: all small numbers, and the numbers around squares of each length.
func TestSqrtAgainstBig(t *testing.T) {
	for n := int64(-10); n < 20000; n++ {
		checkSqrt(t, n)
	}
	for r := int64(1); r < maxRoot; r = r*9/8 + 1 {
		for d := int64(-1); d <= 1; d++ {
			checkSqrt(t, r*r+d)
		}
	}
	for _, n := range edges() {
		checkSqrt(t, n)
	}
}

// P1.1
func TestClamp(t *testing.T) {
	for _, x := range []struct{ x, lo, hi, want int64 }{
		{5, 0, 10, 5}, {0, 0, 10, 0}, {10, 0, 10, 10}, {-5, 0, 10, 0}, {15, 0, 10, 10}, {-7, -9, -8, -8}, {-10, -9, -8, -9}, {0, 0, 0, 0}, {1, 0, 0, 0},
		// hi below lo: lo, wherever x is
		{5, 10, 0, 10}, {-5, 10, 0, 10}, {15, 10, 0, 10}, {0, greatest, least, greatest},
		{least, least, greatest, least}, {greatest, least, greatest, greatest}, {least, 0, greatest, 0}, {greatest, least, 0, 0}, {0, least, least, least}, {0, greatest, greatest, greatest},
	} {
		if got := Clamp(x.x, x.lo, x.hi); got != x.want {
			t.Errorf("Clamp(%d, %d, %d): %d, not %d", x.x, x.lo, x.hi, got, x.want)
		}
	}
}
