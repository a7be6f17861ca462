package icon

import (
	"math"
	"reflect"
	"slices"
	"testing"

	"glyphic/api"
)

// top is the greatest coordinate of right(): 4 times 8 times 2.
const top = 64

func pt(x, y int64) api.Point { return api.Point{X: x, Y: y} }

func line(x, y int64) api.Seg { return api.Seg{Kind: api.Line, P: [3]api.Point{pt(x, y)}} }

func quad(a, b api.Point) api.Seg { return api.Seg{Kind: api.Quad, P: [3]api.Point{a, b}} }

func cubic(a, b, c api.Point) api.Seg { return api.Seg{Kind: api.Cubic, P: [3]api.Point{a, b, c}} }

func lines(n int) []api.Seg { return slices.Repeat([]api.Seg{line(1, 1)}, n) }

// paths are two, each with a segment of each kind.
func paths(closed bool) []api.Path {
	return []api.Path{
		{Start: pt(1, 2), Closed: closed, Segs: []api.Seg{line(3, 4), quad(pt(5, 6), pt(7, 8)), cubic(pt(9, 10), pt(11, 12), pt(13, 14))}},
		{Start: pt(-20, 0), Segs: []api.Seg{cubic(pt(0, 0), pt(-1, 1), pt(2, -2)), line(0, 0), quad(pt(0, 30), pt(-30, 0))}},
	}
}

// right is an icon that may be: of each kind of command one with each kind of paint.
func right() api.Icon {
	return api.Icon{W: 8, H: 6, Scale: 1, Colors: []api.Color{{R: 1}, {G: 1}, {B: 1}, {A: 1}, {}}, Cmds: []api.Cmd{
		{Kind: api.Fill, Rule: api.NonZero, Paint: api.Paint{Kind: api.Flat, A: 0}, Paths: paths(false)},
		{Kind: api.Outline, Width: 5, Paint: api.Paint{Kind: api.Linear, A: 1, B: 2, P: pt(3, -4), Q: pt(5, 6)}, Paths: paths(true)},
		{Kind: api.Fill, Rule: api.EvenOdd, Paint: api.Paint{Kind: api.Radial, A: 2, B: 3, P: pt(-7, 8), Q: pt(9, 0)}, Paths: paths(false)},
		{Kind: api.Outline, Width: 1, Paint: api.Paint{Kind: api.Flat, A: 4}, Paths: paths(true)},
		{Kind: api.Fill, Rule: api.NonZero, Paint: api.Paint{Kind: api.Linear, A: 4, B: 0, P: pt(0, 0), Q: pt(0, 1)}, Paths: paths(false)},
		{Kind: api.Outline, Width: top, Paint: api.Paint{Kind: api.Radial, A: 1, B: 1, P: pt(0, 0), Q: pt(1, 0)}, Paths: paths(true)},
	}}
}

// changed is right(), changed by f.
func changed(f func(x *api.Icon)) api.Icon {
	x := right()
	f(&x)
	return x
}

// P5.1
func TestGreatest(t *testing.T) {
	for _, x := range []struct {
		w, h, scale int
		want        int64
	}{
		{1, 1, 0, 4}, {1, 1, 1, 8}, {1, 1, 6, 256}, {8, 6, 1, top}, {6, 8, 1, top}, {8, 6, 0, 32}, {3, 5, 2, 80}, {24, 24, 3, 768},
		{1, 2, 0, 8}, {2, 1, 0, 8}, {4096, 1, 0, 16384}, {1, 4096, 0, 16384}, {4095, 4096, 5, 524288}, {4096, 4096, 6, 1 << 20}, {1, 4096, 6, 1 << 20}, {4095, 7, 6, 1048320},
	} {
		if got := Greatest(api.Icon{W: x.w, H: x.h, Scale: x.scale}); got != x.want {
			t.Errorf("Greatest of %d, %d, %d: %d, not %d", x.w, x.h, x.scale, got, x.want)
		}
	}
	if got := Greatest(changed(func(x *api.Icon) { x.Colors, x.Cmds = nil, make([]api.Cmd, 300) })); got != top {
		t.Errorf("Greatest with other faults: %d", got)
	}
}

// P5.1: out of their ranges.
func TestGreatestBeyond(t *testing.T) {
	for _, n := range []int{math.MinInt, math.MinInt32, -4096, -1, 0, 4097, 5000, 1 << 20, math.MaxInt32, math.MaxInt} {
		for _, x := range []api.Icon{{W: n, H: 5}, {W: 5, H: n}, {W: n, H: n}, {W: n, H: 4096, Scale: 6}, {W: 4096, H: n, Scale: 6}, {W: n, H: 5, Scale: 7}} {
			if got := Greatest(x); got != 0 {
				t.Errorf("Greatest of %d, %d, %d: %d", x.W, x.H, x.Scale, got)
			}
		}
	}
	for _, n := range []int{math.MinInt, -64, -1, 7, 8, 63, 64, math.MaxInt} {
		if got := Greatest(api.Icon{W: 5, H: 5, Scale: n}); got != 0 {
			t.Errorf("Greatest of a scale of %d: %d", n, got)
		}
	}
}

// P5.1
func TestPoints(t *testing.T) {
	one := func(p ...api.Path) api.Icon { return api.Icon{Cmds: []api.Cmd{{Paths: p}}} }
	for n, x := range []struct {
		i    api.Icon
		want int
	}{
		{api.Icon{}, 0}, {api.Icon{Cmds: make([]api.Cmd, 3)}, 0}, {right(), 6 * 2 * 7},
		{one(api.Path{}), 1}, {one(make([]api.Path, 5)...), 5}, {one(api.Path{Segs: lines(1)}), 2}, {one(api.Path{Segs: lines(400)}), 401}, {one(api.Path{Segs: lines(5000)}), 5001},
		{one(api.Path{Segs: []api.Seg{{Kind: api.Quad}}}), 3}, {one(api.Path{Segs: []api.Seg{{Kind: api.Cubic}}}), 4}, {one(api.Path{Closed: true, Segs: []api.Seg{{Kind: api.Cubic}, {Kind: api.Quad}}}), 6},
		{one(paths(true)...), 14}, {one(paths(true)[0], api.Path{}, paths(false)[1]), 15},
		{api.Icon{Cmds: []api.Cmd{{Paths: paths(true)}, {}, {Paths: paths(false)[:1]}}}, 21},
		// A Kind that is none counts nothing.
		{one(api.Path{Segs: []api.Seg{{}, {Kind: -1}, {Kind: 4}, {Kind: math.MinInt}, {Kind: math.MaxInt}}}), 1}, {one(api.Path{Segs: []api.Seg{{Kind: 9}, line(1, 1), {Kind: -9}}}), 2},
	} {
		if got := Points(x.i); got != x.want {
			t.Errorf("%d: %d points, not %d", n, got, x.want)
		}
	}
}

// ofPoint are changes of a point, each of one part.
func ofPoint(at func(x *api.Icon) *api.Point) []func(x *api.Icon) {
	return []func(x *api.Icon){
		func(x *api.Icon) { at(x).X++ }, func(x *api.Icon) { at(x).Y++ }, func(x *api.Icon) { at(x).X ^= -1 << 63 }, func(x *api.Icon) { at(x).Y ^= 1 << 32 },
	}
}

// ofLists are changes of the lists: fewer, more, in another order.
func ofLists() []func(x *api.Icon) {
	return []func(x *api.Icon){
		func(x *api.Icon) { x.Colors = nil }, func(x *api.Icon) { x.Colors = x.Colors[1:] }, func(x *api.Icon) { x.Colors = x.Colors[:4] }, func(x *api.Icon) { x.Colors = append(x.Colors, api.Color{}) }, func(x *api.Icon) { slices.Reverse(x.Colors) },
		func(x *api.Icon) { x.Cmds = nil }, func(x *api.Icon) { x.Cmds = x.Cmds[1:] }, func(x *api.Icon) { x.Cmds = x.Cmds[:5] }, func(x *api.Icon) { x.Cmds = append(x.Cmds, api.Cmd{}) }, func(x *api.Icon) { slices.Reverse(x.Cmds) },
		func(x *api.Icon) { x.Cmds[5].Paths = nil }, func(x *api.Icon) { x.Cmds[0].Paths = x.Cmds[0].Paths[1:] }, func(x *api.Icon) { x.Cmds[5].Paths = x.Cmds[5].Paths[:1] }, func(x *api.Icon) { x.Cmds[5].Paths = append(x.Cmds[5].Paths, api.Path{}) }, func(x *api.Icon) { slices.Reverse(x.Cmds[5].Paths) },
		func(x *api.Icon) { x.Cmds[5].Paths[1].Segs = nil }, func(x *api.Icon) { x.Cmds[0].Paths[0].Segs = x.Cmds[0].Paths[0].Segs[1:] }, func(x *api.Icon) { x.Cmds[5].Paths[1].Segs = x.Cmds[5].Paths[1].Segs[:2] }, func(x *api.Icon) { x.Cmds[5].Paths[1].Segs = append(x.Cmds[5].Paths[1].Segs, api.Seg{}) }, func(x *api.Icon) { slices.Reverse(x.Cmds[5].Paths[1].Segs) },
	}
}

// ofCmd are changes of the command at a place, each of one part of it.
func ofCmd(n int) []func(x *api.Icon) {
	out := []func(x *api.Icon){
		func(x *api.Icon) { x.Cmds[n].Kind++ }, func(x *api.Icon) { x.Cmds[n].Rule++ }, func(x *api.Icon) { x.Cmds[n].Width++ },
		func(x *api.Icon) { x.Cmds[n].Paint.Kind++ }, func(x *api.Icon) { x.Cmds[n].Paint.A++ }, func(x *api.Icon) { x.Cmds[n].Paint.B++ },
	}
	out = append(out, ofPoint(func(x *api.Icon) *api.Point { return &x.Cmds[n].Paint.P })...)
	out = append(out, ofPoint(func(x *api.Icon) *api.Point { return &x.Cmds[n].Paint.Q })...)
	for p := range 2 {
		out = append(out, func(x *api.Icon) { x.Cmds[n].Paths[p].Closed = !x.Cmds[n].Paths[p].Closed })
		out = append(out, ofPoint(func(x *api.Icon) *api.Point { return &x.Cmds[n].Paths[p].Start })...)
		for s := range 3 {
			out = append(out, func(x *api.Icon) { x.Cmds[n].Paths[p].Segs[s].Kind++ })
			for k := range 3 { // those that the segment's Kind doesn't count, too
				out = append(out, ofPoint(func(x *api.Icon) *api.Point { return &x.Cmds[n].Paths[p].Segs[s].P[k] })...)
			}
		}
	}
	return out
}

// changes are changes of right(), each of one part alone.
func changes() []func(x *api.Icon) {
	out := []func(x *api.Icon){func(x *api.Icon) { x.W++ }, func(x *api.Icon) { x.H++ }, func(x *api.Icon) { x.Scale++ }, func(x *api.Icon) { x.W, x.H = x.H, x.W }}
	for n := range 5 {
		out = append(out, func(x *api.Icon) { x.Colors[n].R += 2 }, func(x *api.Icon) { x.Colors[n].G += 2 }, func(x *api.Icon) { x.Colors[n].B += 2 }, func(x *api.Icon) { x.Colors[n].A += 2 })
	}
	out = append(out, ofLists()...)
	for n := range 6 {
		out = append(out, ofCmd(n)...)
	}
	return out
}

// P5.1: icons that differ in one part are not the same, whichever comes first;
// each is the same as itself, and as one that is made anew.
func TestSame(t *testing.T) {
	for n, f := range changes() {
		x := changed(f)
		if Same(right(), x) || Same(x, right()) {
			t.Errorf("%d: the same", n)
		}
		if !Same(x, x) || !Same(x, changed(f)) {
			t.Errorf("%d: not the same as itself", n)
		}
	}
	if !Same(right(), right()) {
		t.Error("not the same")
	}
}

// P5.1, P0.4: a list that is nil and one that is empty are the same.
func TestSameEmpty(t *testing.T) {
	for n, x := range [][2]api.Icon{
		{{}, {}}, {{}, {Colors: []api.Color{}, Cmds: []api.Cmd{}}}, {{Colors: []api.Color{}}, {Cmds: []api.Cmd{}}},
		{{Cmds: []api.Cmd{{}}}, {Cmds: []api.Cmd{{Paths: []api.Path{}}}}}, {{Cmds: []api.Cmd{{Paths: []api.Path{{}}}}}, {Cmds: []api.Cmd{{Paths: []api.Path{{Segs: []api.Seg{}}}}}}},
	} {
		if !Same(x[0], x[1]) || !Same(x[1], x[0]) {
			t.Errorf("%d: not the same", n)
		}
	}
	for n, x := range []api.Icon{{Colors: make([]api.Color, 1)}, {Cmds: make([]api.Cmd, 1)}} {
		if Same(x, api.Icon{}) || Same(api.Icon{}, x) {
			t.Errorf("%d: the same as nothing", n)
		}
	}
}

// roomy is x in new memory, with something behind the end of each list.
func roomy(x api.Icon) api.Icon {
	x.Colors = behind(x.Colors, api.Color{R: 77})
	x.Cmds = behind(x.Cmds, api.Cmd{Kind: 77})
	for c := range x.Cmds {
		x.Cmds[c].Paths = behind(x.Cmds[c].Paths, api.Path{Closed: true})
		for p := range x.Cmds[c].Paths {
			x.Cmds[c].Paths[p].Segs = behind(x.Cmds[c].Paths[p].Segs, api.Seg{Kind: 77})
		}
	}
	return x
}

func behind[T any](list []T, more T) []T {
	return append(append([]T(nil), list...), more, more)[:len(list)]
}

// whole is x with what lies behind the end of each list laid open.
func whole(x api.Icon) api.Icon {
	x.Colors = x.Colors[:len(x.Colors)+2]
	x.Cmds = slices.Clone(x.Cmds[:len(x.Cmds)+2])
	for c := range len(x.Cmds) - 2 {
		x.Cmds[c].Paths = slices.Clone(x.Cmds[c].Paths[:len(x.Cmds[c].Paths)+2])
		for p := range len(x.Cmds[c].Paths) - 2 {
			s := x.Cmds[c].Paths[p].Segs
			x.Cmds[c].Paths[p].Segs = s[:len(s)+2]
		}
	}
	return x
}

// P0.4: what is handed in stays as it is, and what lies behind the end of its
// lists is neither read nor written.
func TestHandedIn(t *testing.T) {
	for n, f := range append(changes(), func(*api.Icon) {}) {
		plain, x, y := changed(f), roomy(changed(f)), roomy(changed(f))
		if got, want := Check(x), Check(plain); got != want {
			t.Errorf("%d: Check: %v, not %v", n, got, want)
		}
		if got, want := Greatest(x), Greatest(plain); got != want {
			t.Errorf("%d: Greatest: %d, not %d", n, got, want)
		}
		if got, want := Points(x), Points(plain); got != want {
			t.Errorf("%d: Points: %d, not %d", n, got, want)
		}
		if !Same(x, plain) || !Same(plain, x) || !Same(x, y) {
			t.Errorf("%d: Same", n)
		}
		if !reflect.DeepEqual(whole(x), whole(y)) || !reflect.DeepEqual(plain, changed(f)) {
			t.Errorf("%d: it was changed", n)
		}
	}
}
