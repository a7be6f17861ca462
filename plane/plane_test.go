package plane

import (
	"math"
	"math/big"
	"testing"

	"glyphic/api"
)

const (
	far  = 1 << 27 // the greatest part of a point
	wide = 1 << 28 // the greatest w
)

func pt(x, y int64) api.Point { return api.Point{X: x, Y: y} }

// parts are parts of points: around 0, at the ends, and some between.
func parts() []int64 {
	return []int64{-far, -far + 1, -98765432, -1, 0, 1, 3, 67108865, far - 1, far}
}

// corners are points at the ends of what may be, around 0, and some between.
func corners() []api.Point {
	return []api.Point{
		pt(0, 0), pt(1, 0), pt(0, -1), pt(-far, -far), pt(far, far), pt(-far, far), pt(far, -far),
		pt(far, 0), pt(0, far), pt(-far, 1), pt(-1, -far), pt(far-1, far), pt(1-far, 2-far), pt(98765432, -12345679), pt(-31, 67108859), pt(3, 4),
	}
}

// apart is the way from a to b, without bounds.
func apart(a, b api.Point) (x, y *big.Int) {
	return new(big.Int).Sub(big.NewInt(b.X), big.NewInt(a.X)), new(big.Int).Sub(big.NewInt(b.Y), big.NewInt(a.Y))
}

func times(a, b *big.Int) *big.Int { return new(big.Int).Mul(a, b) }

func wantCross(a, b, p api.Point) *big.Int {
	dx, dy := apart(a, b)
	ex, ey := apart(a, p)
	return new(big.Int).Sub(times(dx, ey), times(dy, ex))
}

func wantDot(a, b, p api.Point) *big.Int {
	dx, dy := apart(a, b)
	ex, ey := apart(a, p)
	return new(big.Int).Add(times(dx, ex), times(dy, ey))
}

func checkSides(t *testing.T, a, b, p api.Point) {
	t.Helper()
	if got, want := Cross(a, b, p), wantCross(a, b, p); !want.IsInt64() || got != want.Int64() {
		t.Errorf("Cross(%v, %v, %v): %d, not %v", a, b, p, got, want)
	}
	if got, want := Dot(a, b, p), wantDot(a, b, p); !want.IsInt64() || got != want.Int64() {
		t.Errorf("Dot(%v, %v, %v): %d, not %v", a, b, p, got, want)
	}
	if got, want := Len2(a, b), wantDot(a, b, b); !want.IsInt64() || got != want.Int64() {
		t.Errorf("Len2(%v, %v): %d, not %v", a, b, got, want)
	}
}

// away is the square of the distance of p from the stretch: that of p from the
// point of the stretch that is nearest, which is a + t (b - a), t from 0 to 1.
func away(a, b, p api.Point) *big.Rat {
	t := new(big.Rat)
	if a != b {
		t.SetFrac(wantDot(a, b, p), wantDot(a, b, b))
	}
	if t.Sign() < 0 {
		t.SetInt64(0)
	}
	if one := big.NewRat(1, 1); t.Cmp(one) > 0 {
		t = one
	}
	dx, dy := apart(a, b)
	ex, ey := apart(a, p)
	out := new(big.Rat)
	for _, w := range [][2]*big.Int{{dx, ex}, {dy, ey}} {
		d := new(big.Rat).Mul(t, new(big.Rat).SetInt(w[0]))
		d.Sub(d, new(big.Rat).SetInt(w[1]))
		out.Add(out, d.Mul(d, d))
	}
	return out
}

// leastWide is the least w of which half reaches p: the root, up to a whole
// number, of four times the square of the distance.
func leastWide(a, b, p api.Point) int64 {
	four := new(big.Rat).Mul(big.NewRat(4, 1), away(a, b, p))
	whole, rest := new(big.Int).QuoRem(four.Num(), four.Denom(), new(big.Int))
	root := new(big.Int).Sqrt(whole)
	if rest.Sign() > 0 || times(root, root).Cmp(whole) < 0 {
		root.Add(root, big.NewInt(1))
	}
	return root.Int64()
}

// checkNear holds Near against the least w, at each side of it and at the ends
// of what w may be, the stretch handed in both ways.
func checkNear(t *testing.T, a, b, p api.Point) {
	t.Helper()
	least := leastWide(a, b, p)
	for _, w := range []int64{0, 1, least - 2, least - 1, least, least + 1, least + 2, wide - 1, wide} {
		if w < 0 || w > wide {
			continue
		}
		checkNearIs(t, a, b, p, w, w >= least)
	}
}

func checkNearIs(t *testing.T, a, b, p api.Point, w int64, want bool) {
	t.Helper()
	if got := Near(a, b, p, w); got != want {
		t.Errorf("Near(%v, %v, %v, %d): %t", a, b, p, w, got)
	}
	if got := Near(b, a, p, w); got != want {
		t.Errorf("Near(%v, %v, %v, %d): %t", b, a, p, w, got)
	}
}

// P4.1
func TestSides(t *testing.T) {
	for _, x := range []struct {
		a, b, p          api.Point
		cross, dot, len2 int64
	}{
		{pt(0, 0), pt(0, 0), pt(0, 0), 0, 0, 0}, {pt(0, 0), pt(1, 0), pt(0, 1), 1, 0, 1}, {pt(0, 0), pt(0, 1), pt(1, 0), -1, 0, 1}, {pt(0, 0), pt(1, 0), pt(1, 0), 0, 1, 1}, {pt(0, 0), pt(1, 0), pt(-1, 0), 0, -1, 1},
		{pt(0, 0), pt(10, 0), pt(3, 7), 70, 30, 100}, {pt(0, 0), pt(10, 0), pt(3, -7), -70, 30, 100}, {pt(0, 0), pt(10, 0), pt(-3, 7), 70, -30, 100}, {pt(10, 0), pt(0, 0), pt(3, 7), -70, 70, 100},
		{pt(1, 2), pt(4, 6), pt(9, 3), -29, 28, 25}, {pt(4, 6), pt(1, 2), pt(9, 3), 29, -3, 25}, {pt(-1, -2), pt(-4, -6), pt(-9, -3), -29, 28, 25}, {pt(5, 5), pt(5, 5), pt(-8, 9), 0, 0, 0},
		{pt(-far, -far), pt(far, far), pt(far, far), 0, 1 << 57, 1 << 57}, {pt(-far, -far), pt(far, far), pt(far, -far), -1 << 56, 1 << 56, 1 << 57}, {pt(0, 0), pt(far, far), pt(-far, far), 1 << 55, 0, 1 << 55},
		{pt(far, -far), pt(far, far), pt(-far, 0), 1 << 56, 1 << 55, 1 << 56}, {pt(0, 0), pt(far, -far), pt(-far, far), 0, -1 << 55, 1 << 55}, {pt(far, far), pt(-far, far), pt(far, -far), 1 << 56, 0, 1 << 56},
	} {
		if c, d, l := Cross(x.a, x.b, x.p), Dot(x.a, x.b, x.p), Len2(x.a, x.b); c != x.cross || d != x.dot || l != x.len2 {
			t.Errorf("%v, %v, %v: %d, %d, %d, not %d, %d, %d", x.a, x.b, x.p, c, d, l, x.cross, x.dot, x.len2)
		}
	}
}

// P4.1: against numbers without bounds, at the corners in all combinations.
func TestSidesAtTheEnds(t *testing.T) {
	l := corners()
	for _, a := range l {
		for _, b := range l {
			for _, p := range l {
				checkSides(t, a, b, p)
			}
		}
	}
}

// P4.1
func TestAddSub(t *testing.T) {
	for _, x := range []struct{ a, b, add, sub api.Point }{
		{pt(0, 0), pt(0, 0), pt(0, 0), pt(0, 0)}, {pt(1, 2), pt(30, 500), pt(31, 502), pt(-29, -498)}, {pt(30, 500), pt(1, 2), pt(31, 502), pt(29, 498)}, {pt(-4, 5), pt(7, -9), pt(3, -4), pt(-11, 14)}, {pt(3, 0), pt(0, 4), pt(3, 4), pt(3, -4)},
		{pt(far, far), pt(far, -far), pt(wide, 0), pt(0, wide)}, {pt(-far, -far), pt(far, -far), pt(0, -wide), pt(-wide, 0)},
	} {
		if add, sub := Add(x.a, x.b), Sub(x.a, x.b); add != x.add || sub != x.sub {
			t.Errorf("%v, %v: %v, %v, not %v, %v", x.a, x.b, add, sub, x.add, x.sub)
		}
	}
	for _, m := range parts() {
		for _, n := range parts() {
			if add, sub := Add(pt(m, n), pt(n, 5)), Sub(pt(m, n), pt(n, 5)); add != pt(m+n, n+5) || sub != pt(m-n, n-5) {
				t.Errorf("%d, %d: %v, %v", m, n, add, sub)
			}
		}
	}
}

// P4.2
func TestNear(t *testing.T) {
	for _, x := range []struct {
		a, b, p api.Point
		w       int64
		want    bool
	}{
		{pt(0, 0), pt(0, 0), pt(0, 0), 0, true}, // the document's example
		// A stretch of no length.
		{pt(5, 5), pt(5, 5), pt(5, 5), 0, true}, {pt(5, 5), pt(5, 5), pt(5, 6), 0, false}, {pt(5, 5), pt(5, 5), pt(5, 6), 1, false}, {pt(5, 5), pt(5, 5), pt(5, 6), 2, true}, {pt(5, 5), pt(5, 5), pt(10, 17), 26, true}, {pt(5, 5), pt(5, 5), pt(10, 17), 25, false}, {pt(5, 5), pt(5, 5), pt(6, 6), 3, true}, {pt(5, 5), pt(5, 5), pt(6, 6), 2, false},
		// On a stretch along an axis, beside it, beyond its ends.
		{pt(2, 1), pt(8, 1), pt(2, 1), 0, true}, {pt(2, 1), pt(8, 1), pt(8, 1), 0, true}, {pt(2, 1), pt(8, 1), pt(5, 1), 0, true}, {pt(2, 1), pt(8, 1), pt(1, 1), 0, false}, {pt(2, 1), pt(8, 1), pt(9, 1), 0, false}, {pt(2, 1), pt(8, 1), pt(1, 1), 1, false}, {pt(2, 1), pt(8, 1), pt(9, 1), 1, false}, {pt(2, 1), pt(8, 1), pt(1, 1), 2, true}, {pt(2, 1), pt(8, 1), pt(9, 1), 2, true},
		{pt(2, 1), pt(8, 1), pt(5, 4), 6, true}, {pt(2, 1), pt(8, 1), pt(5, 4), 5, false}, {pt(2, 1), pt(8, 1), pt(5, -2), 6, true}, {pt(2, 1), pt(8, 1), pt(5, -2), 5, false}, {pt(2, 1), pt(8, 1), pt(2, 4), 6, true}, {pt(2, 1), pt(8, 1), pt(8, -2), 6, true}, {pt(2, 1), pt(8, 1), pt(1, 4), 6, false}, {pt(2, 1), pt(8, 1), pt(9, 4), 6, false}, {pt(2, 1), pt(8, 1), pt(1, 4), 7, true},
		{pt(1, 2), pt(1, 8), pt(4, 5), 6, true}, {pt(1, 2), pt(1, 8), pt(4, 5), 5, false}, {pt(1, 2), pt(1, 8), pt(-2, 5), 6, true}, {pt(1, 2), pt(1, 8), pt(-2, 5), 5, false}, {pt(1, 2), pt(1, 8), pt(5, -1), 10, true}, {pt(1, 2), pt(1, 8), pt(5, -1), 9, false}, {pt(1, 2), pt(1, 8), pt(-3, 11), 10, true}, {pt(1, 2), pt(1, 8), pt(-3, 11), 9, false},
		// Slanting ones.
		{pt(0, 0), pt(8, 6), pt(1, 7), 10, true}, {pt(0, 0), pt(8, 6), pt(1, 7), 9, false}, {pt(0, 0), pt(8, 6), pt(7, -1), 10, true}, {pt(0, 0), pt(8, 6), pt(7, -1), 9, false}, {pt(0, 0), pt(8, 6), pt(0, 7), 11, false}, {pt(0, 0), pt(8, 6), pt(0, 7), 12, true}, {pt(0, 0), pt(8, 6), pt(13, 18), 26, true}, {pt(0, 0), pt(8, 6), pt(13, 18), 25, false},
		{pt(0, 0), pt(1, 1), pt(1, 0), 1, false}, {pt(0, 0), pt(1, 1), pt(1, 0), 2, true}, {pt(0, 0), pt(5, -5), pt(2, -3), 2, true}, {pt(0, 0), pt(5, -5), pt(2, -3), 1, false}, {pt(0, 0), pt(3, 1), pt(2, 1), 0, false}, {pt(0, 0), pt(3, 1), pt(2, 1), 1, true},
		// Far away.
		{pt(-far, -far), pt(-far, far), pt(0, far), wide, true}, {pt(-far, -far), pt(-far, far), pt(0, 0), wide - 1, false}, {pt(-far, -far), pt(-far, far), pt(1, 0), wide, false}, {pt(far, far), pt(far, far), pt(0, far), wide, true}, {pt(far, far), pt(far, far), pt(-1, far), wide, false}, {pt(far, far), pt(far, far), pt(0, far-1), wide, false}, {pt(far, far), pt(far, far), pt(-far, -far), wide, false},
		{pt(-far, -far), pt(far, far), pt(-far, far), wide, false}, {pt(-far, far), pt(far, -far), pt(far, far), wide, false}, {pt(-far, far), pt(far, -far), pt(far-1, 1-far), 0, true}, {pt(-far, far), pt(far, -far), pt(far, 1-far), 0, false}, {pt(-far, far), pt(far, -far), pt(far, 1-far), 1, false}, {pt(-far, far), pt(far, -far), pt(far, 1-far), 2, true},
	} {
		checkNearIs(t, x.a, x.b, x.p, x.w, x.want)
	}
}

// P4.2: each small stretch and point, and each w that could matter.
func TestNearSmall(t *testing.T) {
	for i := range int64(7 * 7 * 7 * 7) {
		b, p := pt(i%7-3, i/7%7-3), pt(i/49%7-3, i/343-3)
		least := leastWide(pt(0, 0), b, p)
		for w := range int64(20) {
			checkNearIs(t, pt(0, 0), b, p, w, w >= least)
			checkNearIs(t, pt(20, -9), Add(b, pt(20, -9)), Add(p, pt(20, -9)), w, w >= least)
		}
	}
}

// P4.2: against numbers without bounds, at the corners in all combinations.
func TestNearAtTheEnds(t *testing.T) {
	l := corners()
	for _, a := range l {
		for _, b := range l {
			for _, p := range l {
				checkNear(t, a, b, p)
			}
		}
	}
}

// beside is the point whose cross product with the stretch from a, by (x, y)
// without a common divisor, is n, and which lies between its ends.
func beside(a api.Point, x, y, n int64) api.Point {
	u, v := new(big.Int), new(big.Int)
	new(big.Int).GCD(u, v, big.NewInt(x), big.NewInt(y)) // x u + y v = 1
	whole := big.NewInt(x*x + y*y)
	ey, ex := times(u, big.NewInt(n)), times(v, big.NewInt(-n))
	along := new(big.Int).Add(times(ex, big.NewInt(x)), times(ey, big.NewInt(y)))
	steps := new(big.Int).Div(along, whole) // down: what is left is from 0 to whole - 1
	ex.Sub(ex, times(steps, big.NewInt(x)))
	ey.Sub(ey, times(steps, big.NewInt(y)))
	return Add(a, pt(ex.Int64(), ey.Int64()))
}

// P4.2: a stretch of a whole length, a point that is just half of w away from
// it, and those that are the least farther and the least nearer: 1 / length.
func TestNearByTheLeast(t *testing.T) {
	for _, x := range []struct {
		a            api.Point
		x, y, length int64
	}{
		{pt(0, 0), 3, 4, 5}, {pt(7, -7), 12, -5, 13}, {pt(0, 0), -20, -21, 29},
		{pt(-79570260, -79570260), 159140519, 159140520, 225058681}, {pt(79570260, -79570260), -159140519, 159140520, 225058681},
		{pt(-far, 0), 16383*16383 - 16, 2 * 16383 * 4, 16383*16383 + 16}, {pt(0, far), 2 * 16383 * 4, 16 - 16383*16383, 16383*16383 + 16},
	} {
		if x.x*x.x+x.y*x.y != x.length*x.length {
			t.Fatalf("%d, %d: the length is not %d", x.x, x.y, x.length)
		}
		b := Add(x.a, pt(x.x, x.y))
		for _, w := range []int64{1, 2, 3, 4, 101, 65536, 12345678, 1 << 26} {
			checkNearLeast(t, x.a, b, x.length, w)
		}
	}
}

// checkNearLeast asks Near of points on both sides of the stretch: in cross
// products, half of w is length times w, halved.
func checkNearLeast(t *testing.T, a, b api.Point, length, w int64) {
	t.Helper()
	d := Sub(b, a)
	half := length * w / 2 // down: the least farther is half + 1, of an odd one, too
	for _, side := range []int64{1, -1} {
		checkNearIs(t, a, b, beside(a, d.X, d.Y, side*(half-1)), w, true)
		checkNearIs(t, a, b, beside(a, d.X, d.Y, side*half), w, true)
		checkNearIs(t, a, b, beside(a, d.X, d.Y, side*(half+1)), w, false)
	}
}

// P0.1: arguments beyond the bounds: each call ends and none panics; a w below
// 0 reaches nothing, not even what lies on the stretch.
func TestBeyond(t *testing.T) {
	l := []int64{math.MinInt64, math.MinInt64 + 1, -1 << 62, -far - 1, -1, 0, 1, far + 1, 1 << 32, 1 << 62, math.MaxInt64}
	for _, x := range l {
		for _, y := range l {
			for _, z := range l {
				a, b, p := pt(x, y), pt(y, z), pt(z, x)
				Cross(a, b, p)
				Dot(a, b, p)
				Len2(a, b)
				Add(a, b)
				Sub(a, b)
				for _, w := range l {
					Near(a, b, p, w)
				}
			}
		}
	}
	for _, w := range []int64{-1, -2, -wide, math.MinInt64} {
		checkNearIs(t, pt(0, 0), pt(0, 0), pt(0, 0), w, false)
		checkNearIs(t, pt(0, 0), pt(4, 2), pt(2, 1), w, false)
	}
}
