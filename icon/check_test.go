package icon

import (
	"math"
	"slices"
	"testing"

	"glyphic/api"
)

// fault is a way to break a row of P5.2 and nothing ahead of it.
type fault struct {
	name string
	err  error
	do   func(x *api.Icon)
}

// faults are some, of one row.
func faults(name string, err error, do ...func(x *api.Icon)) []fault {
	var out []fault
	for _, f := range do {
		out = append(out, fault{name, err, f})
	}
	return out
}

// numbers are faults that put each of some numbers at a place.
func numbers[N any](name string, err error, at func(x *api.Icon) *N, wrong ...N) []fault {
	var out []fault
	for _, n := range wrong {
		out = append(out, fault{name, err, func(x *api.Icon) { *at(x) = n }})
	}
	return out
}

// farther are faults of a point, with a part that is beyond the greatest.
func farther(name string, at func(x *api.Icon) *api.Point) []fault {
	wrong := []int64{-top - 1, top + 1, math.MinInt64, math.MaxInt64}
	return slices.Concat(
		numbers(name+".X", api.ErrRange, func(x *api.Icon) *int64 { return &at(x).X }, wrong...),
		numbers(name+".Y", api.ErrRange, func(x *api.Icon) *int64 { return &at(x).Y }, wrong...))
}

// notZero are faults of a point that has to be zero: within the greatest, and beyond it.
func notZero(name string, at func(x *api.Icon) *api.Point) []fault {
	return slices.Concat(
		numbers(name+".X", api.ErrCanon, func(x *api.Icon) *int64 { return &at(x).X }, 1, -1, top+1, math.MinInt64),
		numbers(name+".Y", api.ErrCanon, func(x *api.Icon) *int64 { return &at(x).Y }, 1, -1, top+1, math.MaxInt64))
}

func headFaults() []fault {
	units := []int{0, -1, api.MaxUnits + 1, math.MinInt, math.MaxInt}
	return slices.Concat(
		numbers("W", api.ErrRange, func(x *api.Icon) *int { return &x.W }, units...),
		numbers("H", api.ErrRange, func(x *api.Icon) *int { return &x.H }, units...),
		numbers("Scale", api.ErrRange, func(x *api.Icon) *int { return &x.Scale }, -1, api.MaxScale+1, math.MinInt, math.MaxInt),
		faults("colors", api.ErrLimit, func(x *api.Icon) {
			for n := len(x.Colors); n <= api.MaxColors; n++ {
				x.Colors = append(x.Colors, api.Color{R: uint8(n), G: 9, B: uint8(n >> 8)})
			}
		}),
		faults("commands", api.ErrLimit, func(x *api.Icon) {
			for len(x.Cmds) <= api.MaxCmds {
				x.Cmds = append(x.Cmds, right().Cmds[0])
			}
		}))
}

func cmdFaults(n int) []fault {
	cmd := func(x *api.Icon) *api.Cmd { return &x.Cmds[n] }
	rule := func(x *api.Icon) *int { return &x.Cmds[n].Rule }
	width := func(x *api.Icon) *int64 { return &x.Cmds[n].Width }
	out := numbers("Kind", api.ErrRange, func(x *api.Icon) *int { return &cmd(x).Kind }, 0, 3, -1, math.MinInt, math.MaxInt)
	out = append(out, numbers("Rule", api.ErrRange, rule, 2, -1, math.MinInt, math.MaxInt)...)
	if right().Cmds[n].Kind == api.Outline {
		out = append(out, numbers("Rule", api.ErrRange, rule, 1)...)
		out = append(out, numbers("Width", api.ErrRange, width, 0, -1, top+1, math.MinInt64, math.MaxInt64)...)
	} else {
		out = append(out, numbers("Width", api.ErrRange, width, 1, -1, top, math.MinInt64, math.MaxInt64)...)
	}
	out = append(out, paintFaults(n)...)
	out = append(out, faults("paths", api.ErrRange, func(x *api.Icon) { cmd(x).Paths = nil }, func(x *api.Icon) { cmd(x).Paths = []api.Path{} })...)
	out = append(out, faults("paths", api.ErrLimit, func(x *api.Icon) {
		for len(cmd(x).Paths) <= api.MaxPaths {
			cmd(x).Paths = append(cmd(x).Paths, paths(false)[1])
		}
	})...)
	for p := range 2 {
		out = append(out, pathFaults(n, p)...)
	}
	return out
}

func paintFaults(n int) []fault {
	paint := func(x *api.Icon) *api.Paint { return &x.Cmds[n].Paint }
	first := func(x *api.Icon) *api.Point { return &paint(x).P }
	second := func(x *api.Icon) *api.Point { return &paint(x).Q }
	a := func(x *api.Icon) *int { return &paint(x).A }
	b := func(x *api.Icon) *int { return &paint(x).B }
	out := slices.Concat(
		numbers("paint Kind", api.ErrRange, func(x *api.Icon) *int { return &paint(x).Kind }, -1, 3, math.MinInt, math.MaxInt),
		numbers("A", api.ErrRange, a, -1, math.MinInt, math.MaxInt),
		faults("A", api.ErrRange, func(x *api.Icon) { paint(x).A = len(x.Colors) }))
	kind := right().Cmds[n].Paint.Kind
	if kind == api.Flat {
		return slices.Concat(out,
			numbers("flat B", api.ErrCanon, b, 1, -1, 4, 5, math.MinInt, math.MaxInt),
			notZero("flat P", first), notZero("flat Q", second))
	}
	out = slices.Concat(out,
		numbers("B", api.ErrRange, b, -1, math.MinInt, math.MaxInt),
		faults("B", api.ErrRange, func(x *api.Icon) { paint(x).B = len(x.Colors) }),
		farther("P", first))
	if kind == api.Linear {
		return slices.Concat(out, farther("linear Q", second), faults("P is Q", api.ErrRange, func(x *api.Icon) { paint(x).Q = paint(x).P }))
	}
	return slices.Concat(out,
		numbers("radius", api.ErrRange, func(x *api.Icon) *int64 { return &paint(x).Q.X }, 0, -1, -top, top+1, math.MinInt64, math.MaxInt64),
		numbers("radial Q.Y", api.ErrCanon, func(x *api.Icon) *int64 { return &paint(x).Q.Y }, 1, -1, top, top+1, math.MinInt64, math.MaxInt64))
}

func pathFaults(n, p int) []fault {
	path := func(x *api.Icon) *api.Path { return &x.Cmds[n].Paths[p] }
	var out []fault
	if right().Cmds[n].Kind == api.Fill {
		out = faults("closed", api.ErrCanon, func(x *api.Icon) { path(x).Closed = true })
	}
	out = slices.Concat(out,
		faults("segments", api.ErrRange, func(x *api.Icon) { path(x).Segs = nil }, func(x *api.Icon) { path(x).Segs = []api.Seg{} }),
		faults("segments", api.ErrLimit, func(x *api.Icon) {
			for len(path(x).Segs) <= api.MaxSegs {
				path(x).Segs = append(path(x).Segs, line(1, 1))
			}
		}),
		farther("Start", func(x *api.Icon) *api.Point { return &path(x).Start }))
	for s := range 3 {
		out = append(out, segFaults(n, p, s)...)
	}
	return out
}

func segFaults(n, p, s int) []fault {
	seg := func(x *api.Icon) *api.Seg { return &x.Cmds[n].Paths[p].Segs[s] }
	out := numbers("segment's Kind", api.ErrRange, func(x *api.Icon) *int { return &seg(x).Kind }, 0, 4, -1, math.MinInt, math.MaxInt)
	kind := right().Cmds[n].Paths[p].Segs[s].Kind
	for k := range 3 {
		at := func(x *api.Icon) *api.Point { return &seg(x).P[k] }
		if k < kind {
			out = append(out, farther("segment's point", at)...)
		} else {
			out = append(out, notZero("segment's other", at)...)
		}
	}
	return out
}

func lastFaults() []fault {
	return slices.Concat(
		faults("points", api.ErrLimit, func(x *api.Icon) {
			last := &x.Cmds[len(x.Cmds)-1]
			last.Paths = append(last.Paths, slices.Repeat([]api.Path{{Segs: lines(api.MaxSegs)}}, 10)...)
		}),
		faults("twins", api.ErrCanon, func(x *api.Icon) { x.Colors[4] = x.Colors[3] }, func(x *api.Icon) { x.Colors[4] = x.Colors[0] }, func(x *api.Icon) { x.Colors[0] = x.Colors[1] }),
		faults("unused", api.ErrCanon, func(x *api.Icon) { x.Colors = append(x.Colors, api.Color{R: 99}) }, func(x *api.Icon) { x.Cmds[3].Paint.A, x.Cmds[4].Paint.A = 3, 3 }),
		faults("order", api.ErrCanon, func(x *api.Icon) { x.Cmds[0].Paint.A = 1 }, func(x *api.Icon) { x.Cmds[1].Paint.A, x.Cmds[1].Paint.B = 2, 1 }, func(x *api.Icon) { x.Cmds[2].Paint.A = 4 }))
}

// allFaults are faults of each row, in the order of the chapter.
func allFaults() []fault {
	out := headFaults()
	for n := range right().Cmds {
		out = append(out, cmdFaults(n)...)
	}
	return append(out, lastFaults()...)
}

func checkIs(t *testing.T, name string, i api.Icon, want error) {
	t.Helper()
	if got := Check(i); got != want {
		t.Errorf("%s: %v, not %v", name, got, want)
	}
}

// P5.2
func TestRight(t *testing.T) {
	checkIs(t, "all kinds", right(), nil)
	checkIs(t, "nothing drawn", api.Icon{W: 1, H: 1}, nil)
	checkIs(t, "empty lists", api.Icon{W: 1, H: 1, Colors: []api.Color{}, Cmds: []api.Cmd{}}, nil)
	checkIs(t, "the zero value", api.Icon{}, api.ErrRange) // the document's example
}

// P5.2: each row broken alone.
func TestOneFault(t *testing.T) {
	for n, f := range allFaults() {
		if got := Check(changed(f.do)); got != f.err {
			t.Errorf("%d, %s: %v, not %v", n, f.name, got, f.err)
		}
	}
}

// P5.2: of two that are broken, the first is the answer. What comes later is
// broken first, so that it can't undo what it is held against.
func TestTwoFaults(t *testing.T) {
	l := thinned(allFaults())
	for n, first := range l {
		for _, second := range l[n+1:] {
			x := changed(second.do)
			first.do(&x)
			if got := Check(x); got != first.err {
				t.Errorf("%d, %s with %s: %v, not %v", n, first.name, second.name, got, first.err)
			}
		}
	}
}

// thinned are the faults without those that tell another number of the same
// row: the first and the last of each are left.
func thinned(l []fault) []fault {
	var out []fault
	for n, f := range l {
		if n == 0 || n == len(l)-1 || l[n-1].name != f.name || l[n+1].name != f.name {
			out = append(out, f)
		}
	}
	return out
}

// P5.2: the ends of W, H and Scale, and what is beyond them.
func TestSizes(t *testing.T) {
	for _, x := range []struct {
		w, h, scale int
		want        error
	}{
		{1, 1, 0, nil}, {1, 1, 6, nil}, {4096, 1, 0, nil}, {1, 4096, 0, nil}, {4096, 4096, 6, nil}, {4095, 2, 3, nil},
		{0, 1, 0, api.ErrRange}, {1, 0, 0, api.ErrRange}, {4097, 1, 0, api.ErrRange}, {1, 4097, 0, api.ErrRange}, {1, 1, -1, api.ErrRange}, {1, 1, 7, api.ErrRange}, {-1, 1, 0, api.ErrRange}, {1, -1, 0, api.ErrRange},
	} {
		if got := Check(api.Icon{W: x.w, H: x.h, Scale: x.scale}); got != x.want {
			t.Errorf("%d, %d, %d: %v, not %v", x.w, x.h, x.scale, got, x.want)
		}
	}
}

// colorful has n colors, each of them used, two a command.
func colorful(n int) api.Icon {
	x := api.Icon{W: 2, H: 2}
	for c := range n {
		x.Colors = append(x.Colors, api.Color{R: uint8(c), G: uint8(c >> 8)})
	}
	for c := 0; c < n; c += 2 {
		x.Cmds = append(x.Cmds, api.Cmd{Kind: api.Fill, Paint: api.Paint{Kind: api.Linear, A: c, B: min(c+1, n-1), Q: pt(1, 0)}, Paths: []api.Path{{Segs: lines(1)}}})
	}
	return x
}

// plain has commands with so many paths, of so many lines each.
func plain(cmds, paths, segs int) api.Icon {
	path := api.Path{Segs: lines(segs)}
	cmd := api.Cmd{Kind: api.Fill, Paths: slices.Repeat([]api.Path{path}, paths)}
	return api.Icon{W: 1, H: 1, Colors: make([]api.Color, min(1, cmds)), Cmds: slices.Repeat([]api.Cmd{cmd}, cmds)}
}

// P5.2: as many as may be, and one more.
func TestCounts(t *testing.T) {
	checkIs(t, "255 colors", colorful(255), nil)
	checkIs(t, "256 colors", colorful(256), nil)
	checkIs(t, "257 colors", colorful(257), api.ErrLimit)
	checkIs(t, "1 command", plain(1, 1, 1), nil)
	checkIs(t, "200 commands", plain(200, 1, 1), nil)
	checkIs(t, "201 commands", plain(201, 1, 1), api.ErrLimit)
	checkIs(t, "200 paths", plain(1, 200, 1), nil)
	checkIs(t, "201 paths", plain(1, 201, 1), api.ErrLimit)
	checkIs(t, "200 paths, 10 commands", plain(10, 200, 1), nil)
	checkIs(t, "400 segments", plain(1, 1, 400), nil)
	checkIs(t, "401 segments", plain(1, 1, 401), api.ErrLimit)
	checkIs(t, "400 segments, 9 paths", plain(1, 9, 400), nil)
	checkIs(t, "all that each may be", plain(200, 200, 400), api.ErrLimit)
}

// P5.2: 4000 points and one more, starts among them, of all kinds of segments.
func TestPointsMost(t *testing.T) {
	for n, x := range []struct {
		i    api.Icon
		want error
	}{
		{plain(1, 10, 399), nil}, {plain(1, 10, 400), api.ErrLimit}, {plain(10, 1, 399), nil}, {plain(10, 1, 400), api.ErrLimit}, {plain(200, 10, 1), nil}, {plain(200, 1, 19), nil}, {plain(200, 1, 20), api.ErrLimit}, {plain(200, 11, 1), api.ErrLimit},
	} {
		if got := Check(x.i); got != x.want {
			t.Errorf("%d: %v, not %v", n, got, x.want)
		}
	}
	for _, x := range []struct {
		lines, quads, cubics int // 390 points of them are as many as may be
		want                 error
	}{
		{390, 0, 0, nil}, {391, 0, 0, api.ErrLimit}, {0, 195, 0, nil}, {1, 195, 0, api.ErrLimit}, {0, 196, 0, api.ErrLimit}, {0, 0, 130, nil}, {1, 0, 130, api.ErrLimit}, {0, 0, 131, api.ErrLimit}, {0, 2, 129, api.ErrLimit}, {1, 1, 129, nil}, {100, 100, 30, nil}, {101, 100, 30, api.ErrLimit},
	} {
		i := plain(1, 9, 400)
		segs := slices.Concat(lines(x.lines), slices.Repeat([]api.Seg{{Kind: api.Quad}}, x.quads), slices.Repeat([]api.Seg{{Kind: api.Cubic}}, x.cubics))
		i.Cmds = append(i.Cmds, api.Cmd{Kind: api.Outline, Width: 1, Paths: []api.Path{{Segs: segs, Closed: true}}})
		if got := Check(i); got != x.want {
			t.Errorf("%d, %d, %d: %v, not %v", x.lines, x.quads, x.cubics, got, x.want)
		}
	}
}

// points are all points of the icon whose parts go to the greatest on both sides.
func points(x *api.Icon) []*api.Point {
	var out []*api.Point
	for c := range x.Cmds {
		cmd := &x.Cmds[c]
		if cmd.Paint.Kind != api.Flat {
			out = append(out, &cmd.Paint.P)
		}
		if cmd.Paint.Kind == api.Linear {
			out = append(out, &cmd.Paint.Q)
		}
		for p := range cmd.Paths {
			out = append(out, &cmd.Paths[p].Start)
			for s := range cmd.Paths[p].Segs {
				seg := &cmd.Paths[p].Segs[s]
				for k := range seg.Kind {
					out = append(out, &seg.P[k])
				}
			}
		}
	}
	return out
}

// P5.2: each part of each point just at the greatest, and one farther, on both
// sides; the greatest is that of the greater of W and H.
func TestFarthest(t *testing.T) {
	for _, size := range []struct {
		w, h, scale int
		far         int64
	}{{8, 6, 1, top}, {6, 8, 1, top}, {16, 16, 0, top}, {4096, 20, 6, 1 << 20}, {1, 4096, 2, 1 << 16}} {
		sized := func() api.Icon {
			x := right()
			x.W, x.H, x.Scale = size.w, size.h, size.scale
			return x
		}
		first := sized()
		for n := range points(&first) {
			for _, part := range []struct {
				by   api.Point
				want error
			}{
				{pt(size.far, -size.far), nil}, {pt(-size.far, size.far), nil},
				{pt(size.far+1, 0), api.ErrRange}, {pt(-size.far-1, 0), api.ErrRange}, {pt(0, size.far+1), api.ErrRange}, {pt(0, -size.far-1), api.ErrRange},
			} {
				x := sized()
				*points(&x)[n] = part.by
				if got := Check(x); got != part.want {
					t.Errorf("%v, point %d at %v: %v, not %v", size, n, part.by, got, part.want)
				}
			}
		}
		checkLengths(t, sized, size.far)
	}
}

// checkLengths asks Check of widths and radii, of which the greatest is far.
func checkLengths(t *testing.T, sized func() api.Icon, far int64) {
	t.Helper()
	for _, n := range []int64{-far, -1, 0, 1, 2, far - 1, far, far + 1} {
		var want error
		if n < 1 || n > far {
			want = api.ErrRange
		}
		for c, cmd := range right().Cmds {
			x := sized()
			x.Cmds[c].Width = n
			if got := Check(x); cmd.Kind == api.Outline && got != want {
				t.Errorf("a width of %d, of %d: %v, not %v", n, far, got, want)
			}
			x = sized()
			x.Cmds[c].Paint.Q.X = n
			if got := Check(x); cmd.Paint.Kind == api.Radial && got != want {
				t.Errorf("a radius of %d, of %d: %v, not %v", n, far, got, want)
			}
		}
	}
}

// painted has a command for each paint: a number below 0 stands for a Flat's B.
func painted(colors int, places ...[2]int) api.Icon {
	x := api.Icon{W: 1, H: 1}
	for n := range colors {
		x.Colors = append(x.Colors, api.Color{B: uint8(n)})
	}
	for n, p := range places {
		paint := api.Paint{Kind: api.Linear + n%2, A: p[0], B: p[1], Q: pt(1, 0)}
		if p[1] < 0 {
			paint = api.Paint{A: p[0]}
		}
		x.Cmds = append(x.Cmds, api.Cmd{Kind: api.Fill, Paint: paint, Paths: []api.Path{{Segs: lines(1)}}})
	}
	return x
}

// P5.2: all colors are used, in the order in which they are first used, A ahead of B.
func TestUse(t *testing.T) {
	for n, x := range []struct {
		i    api.Icon
		want error
	}{
		{painted(1, [2]int{0, -1}), nil}, {painted(1, [2]int{0, 0}), nil}, {painted(1, [2]int{0, -1}, [2]int{0, 0}, [2]int{0, -1}), nil}, {painted(2, [2]int{0, 1}), nil}, {painted(2, [2]int{0, -1}, [2]int{1, -1}), nil}, {painted(2, [2]int{0, -1}, [2]int{1, 0}), nil}, {painted(2, [2]int{0, 0}, [2]int{0, 1}), nil},
		{painted(4, [2]int{0, 1}, [2]int{1, 2}, [2]int{0, -1}, [2]int{3, 2}), nil}, {painted(4, [2]int{0, 1}, [2]int{2, 3}, [2]int{3, 0}), nil},
		{painted(1), api.ErrCanon}, {painted(2, [2]int{0, -1}), api.ErrCanon}, {painted(2, [2]int{0, 0}), api.ErrCanon}, {painted(2, [2]int{1, -1}), api.ErrCanon}, {painted(2, [2]int{1, 1}), api.ErrCanon}, {painted(2, [2]int{1, 0}), api.ErrCanon}, {painted(2, [2]int{1, -1}, [2]int{0, -1}), api.ErrCanon}, {painted(2, [2]int{1, 0}, [2]int{0, 1}), api.ErrCanon},
		{painted(3, [2]int{0, 2}, [2]int{1, -1}), api.ErrCanon}, {painted(3, [2]int{0, 1}, [2]int{1, 0}), api.ErrCanon}, {painted(3, [2]int{0, -1}, [2]int{2, 1}), api.ErrCanon}, {painted(4, [2]int{0, 1}, [2]int{3, 2}), api.ErrCanon}, {painted(4, [2]int{0, 1}, [2]int{2, 2}), api.ErrCanon},
		{painted(0, [2]int{0, -1}), api.ErrRange}, {painted(1, [2]int{0, 1}), api.ErrRange}, {painted(1, [2]int{1, 0}), api.ErrRange},
	} {
		if got := Check(x.i); got != x.want {
			t.Errorf("%d: %v, not %v", n, got, x.want)
		}
	}
}

// P5.2: two colors that are the same, at any two places; those that differ in one part are not.
func TestTwins(t *testing.T) {
	for a := range 256 {
		b := (a*7 + 100) % 256
		x := colorful(256)
		x.Colors[a] = x.Colors[b]
		if got := Check(x); got != api.ErrCanon && a != b {
			t.Errorf("%d as %d: %v", a, b, got)
		}
	}
	x := painted(5, [2]int{0, 1}, [2]int{2, 3}, [2]int{4, -1})
	x.Colors = []api.Color{{R: 5, G: 5, B: 5, A: 5}, {R: 6, G: 5, B: 5, A: 5}, {R: 5, G: 6, B: 5, A: 5}, {R: 5, G: 5, B: 6, A: 5}, {R: 5, G: 5, B: 5, A: 6}}
	checkIs(t, "one part apart", x, nil)
	x.Colors[4].A = 5
	checkIs(t, "no part apart", x, api.ErrCanon)
}

// P0.1: icons of no sense: each call ends and none panics.
func TestNonsense(t *testing.T) {
	l := []int{math.MinInt, -1, 0, 1, 2, 3, 4, math.MaxInt}
	for _, a := range l {
		for _, b := range l {
			for _, c := range l {
				seg := api.Seg{Kind: c, P: [3]api.Point{pt(int64(a), int64(b)), pt(int64(b), int64(c)), pt(int64(c), int64(a))}}
				path := api.Path{Start: pt(int64(b), int64(a)), Segs: []api.Seg{seg, seg}, Closed: a == b}
				cmd := api.Cmd{Kind: b, Rule: c, Width: int64(a), Paint: api.Paint{Kind: c, A: a, B: b, P: pt(int64(a), int64(b)), Q: pt(int64(c), int64(a))}, Paths: []api.Path{path, {}}}
				for _, x := range []api.Icon{{W: a, H: b, Scale: c, Cmds: []api.Cmd{cmd}}, {W: 1, H: 1, Colors: make([]api.Color, 3), Cmds: []api.Cmd{cmd, {}, cmd}}} {
					if Check(x) == nil || !Same(x, x) || Points(x) < 2 || Greatest(x) < 0 {
						t.Errorf("of %d, %d, %d", a, b, c)
					}
				}
			}
		}
	}
}
