package encode

import (
	"math"
	"slices"
	"testing"

	"glyphic/api"
	"glyphic/icon"
)

func checkRefused(t *testing.T, name string, i api.Icon, want error) {
	t.Helper()
	if got, err := Bytes(i); err != want || len(got) > 0 {
		t.Errorf("%s: % x, %v, not %v", name, got, err, want)
	}
}

// paths are two, each with a segment of each kind.
func paths() []api.Path {
	return []api.Path{
		path(pt(1, 2), line(3, 4), quad(pt(5, 6), pt(7, 8)), cubic(pt(9, 10), pt(11, 12), pt(13, 14))),
		path(pt(-20, 0), cubic(pt(0, 0), pt(-1, 1), pt(2, -2)), line(0, 0), quad(pt(0, 30), pt(-30, 0))),
	}
}

// right is an icon that may be, with a Flat fill, a Linear outline, a Radial fill; its greatest coordinate is 64.
func right() api.Icon {
	return api.Icon{W: 8, H: 6, Scale: 1, Colors: []api.Color{{R: 1}, {G: 1}, {B: 1}, {A: 1}}, Cmds: []api.Cmd{
		{Kind: api.Fill, Rule: api.NonZero, Paint: api.Paint{Kind: api.Flat, A: 0}, Paths: paths()},
		{Kind: api.Outline, Width: 5, Paint: api.Paint{Kind: api.Linear, A: 1, B: 2, P: pt(3, -4), Q: pt(5, 6)}, Paths: paths()},
		{Kind: api.Fill, Rule: api.EvenOdd, Paint: api.Paint{Kind: api.Radial, A: 2, B: 3, P: pt(-7, 8), Q: pt(9, 0)}, Paths: paths()},
	}}
}

// changed is right(), changed by f.
func changed(f func(x *api.Icon)) api.Icon {
	x := right()
	f(&x)
	return x
}

// fault is a way to make right() one that may not be.
type fault struct {
	name string
	err  error
	do   func(x *api.Icon)
}

func headFaults() []fault {
	return []fault{
		{"W 0", api.ErrRange, func(x *api.Icon) { x.W = 0 }}, {"W beyond", api.ErrRange, func(x *api.Icon) { x.W = 4097 }}, {"W below", api.ErrRange, func(x *api.Icon) { x.W = math.MinInt }},
		{"H 0", api.ErrRange, func(x *api.Icon) { x.H = 0 }}, {"H beyond", api.ErrRange, func(x *api.Icon) { x.H = 4097 }}, {"H below", api.ErrRange, func(x *api.Icon) { x.H = -1 }},
		{"Scale beyond", api.ErrRange, func(x *api.Icon) { x.Scale = 7 }}, {"Scale below", api.ErrRange, func(x *api.Icon) { x.Scale = -1 }},
		{"257 colors", api.ErrLimit, func(x *api.Icon) { x.Colors = colors(257) }},
		{"201 commands", api.ErrLimit, func(x *api.Icon) { x.Cmds = slices.Repeat(x.Cmds[:1], 201) }},
		{"no color", api.ErrRange, func(x *api.Icon) { x.Colors = nil }},
		{"twins", api.ErrCanon, func(x *api.Icon) { x.Colors[3] = x.Colors[0] }},
		{"a color that is not used", api.ErrCanon, func(x *api.Icon) { x.Colors = append(x.Colors, api.Color{R: 9}) }},
		{"no command uses the colors", api.ErrCanon, func(x *api.Icon) { x.Cmds = nil }},
		{"colors out of order", api.ErrCanon, func(x *api.Icon) { x.Cmds[1].Paint.A, x.Cmds[1].Paint.B = 2, 1 }},
		{"too many points", api.ErrLimit, func(x *api.Icon) {
			x.Cmds[0].Paths = slices.Repeat([]api.Path{path(pt(0, 0), slices.Repeat([]api.Seg{line(0, 0)}, 400)...)}, 10)
		}},
	}
}

func cmdFaults() []fault {
	return []fault{
		{"Kind 0", api.ErrRange, func(x *api.Icon) { x.Cmds[2].Kind = 0 }}, {"Kind 3", api.ErrRange, func(x *api.Icon) { x.Cmds[0].Kind = 3 }},
		{"Rule 2", api.ErrRange, func(x *api.Icon) { x.Cmds[0].Rule = 2 }}, {"Rule below", api.ErrRange, func(x *api.Icon) { x.Cmds[2].Rule = -1 }}, {"an Outline's Rule", api.ErrRange, func(x *api.Icon) { x.Cmds[1].Rule = 1 }},
		{"a Fill's Width", api.ErrRange, func(x *api.Icon) { x.Cmds[0].Width = 1 }}, {"Width 0", api.ErrRange, func(x *api.Icon) { x.Cmds[1].Width = 0 }}, {"Width beyond", api.ErrRange, func(x *api.Icon) { x.Cmds[1].Width = 65 }}, {"Width below", api.ErrRange, func(x *api.Icon) { x.Cmds[1].Width = math.MinInt64 }},
		{"paint 3", api.ErrRange, func(x *api.Icon) { x.Cmds[2].Paint.Kind = 3 }}, {"paint below", api.ErrRange, func(x *api.Icon) { x.Cmds[0].Paint.Kind = -1 }},
		{"A beyond", api.ErrRange, func(x *api.Icon) { x.Cmds[0].Paint.A = 4 }}, {"A below", api.ErrRange, func(x *api.Icon) { x.Cmds[1].Paint.A = -1 }}, {"B beyond", api.ErrRange, func(x *api.Icon) { x.Cmds[1].Paint.B = 4 }}, {"B below", api.ErrRange, func(x *api.Icon) { x.Cmds[2].Paint.B = -1 }},
		{"a Flat's B", api.ErrCanon, func(x *api.Icon) { x.Cmds[0].Paint.B = 1 }}, {"a Flat's P", api.ErrCanon, func(x *api.Icon) { x.Cmds[0].Paint.P.Y = 1 }}, {"a Flat's Q", api.ErrCanon, func(x *api.Icon) { x.Cmds[0].Paint.Q.X = 1 }},
		{"P beyond", api.ErrRange, func(x *api.Icon) { x.Cmds[1].Paint.P.X = 65 }}, {"P below", api.ErrRange, func(x *api.Icon) { x.Cmds[2].Paint.P.Y = -65 }}, {"a Linear's Q", api.ErrRange, func(x *api.Icon) { x.Cmds[1].Paint.Q.Y = 65 }}, {"P is Q", api.ErrRange, func(x *api.Icon) { x.Cmds[1].Paint.Q = x.Cmds[1].Paint.P }},
		{"a radius of 0", api.ErrRange, func(x *api.Icon) { x.Cmds[2].Paint.Q.X = 0 }}, {"a radius below", api.ErrRange, func(x *api.Icon) { x.Cmds[2].Paint.Q.X = -1 }}, {"a radius beyond", api.ErrRange, func(x *api.Icon) { x.Cmds[2].Paint.Q.X = 65 }}, {"a Radial's Q.Y", api.ErrCanon, func(x *api.Icon) { x.Cmds[2].Paint.Q.Y = 1 }},
		{"no path", api.ErrRange, func(x *api.Icon) { x.Cmds[1].Paths = nil }}, {"201 paths", api.ErrLimit, func(x *api.Icon) { x.Cmds[2].Paths = slices.Repeat([]api.Path{short()}, 201) }},
	}
}

func pathFaults() []fault {
	return []fault{
		{"a Fill that is Closed", api.ErrCanon, func(x *api.Icon) { x.Cmds[2].Paths[1].Closed = true }},
		{"no segment", api.ErrRange, func(x *api.Icon) { x.Cmds[0].Paths[1].Segs = nil }},
		{"401 segments", api.ErrLimit, func(x *api.Icon) { x.Cmds[1].Paths[0].Segs = slices.Repeat([]api.Seg{line(0, 0)}, 401) }},
		{"Start beyond", api.ErrRange, func(x *api.Icon) { x.Cmds[0].Paths[0].Start.X = 65 }}, {"Start below", api.ErrRange, func(x *api.Icon) { x.Cmds[2].Paths[1].Start.Y = math.MinInt64 }},
		{"a segment's Kind 0", api.ErrRange, func(x *api.Icon) { x.Cmds[0].Paths[0].Segs[0].Kind = 0 }}, {"a segment's Kind 4", api.ErrRange, func(x *api.Icon) { x.Cmds[2].Paths[1].Segs[2].Kind = 4 }}, {"a segment's Kind below", api.ErrRange, func(x *api.Icon) { x.Cmds[1].Paths[1].Segs[1].Kind = -1 }},
		{"a point beyond", api.ErrRange, func(x *api.Icon) { x.Cmds[0].Paths[0].Segs[2].P[2].X = 65 }}, {"a point below", api.ErrRange, func(x *api.Icon) { x.Cmds[2].Paths[1].Segs[2].P[1].Y = -65 }},
		{"a point more than a Line's", api.ErrCanon, func(x *api.Icon) { x.Cmds[0].Paths[0].Segs[0].P[1].X = 1 }}, {"a point more than a Quad's", api.ErrCanon, func(x *api.Icon) { x.Cmds[2].Paths[1].Segs[2].P[2].Y = -1 }},
	}
}

// P6.2, P0.3: each of Check's errors, with no bytes beside it.
func TestRefused(t *testing.T) {
	if _, err := Bytes(right()); err != nil {
		t.Fatal(err)
	}
	checkRefused(t, "the zero value", api.Icon{}, api.ErrRange)
	for _, f := range slices.Concat(headFaults(), cmdFaults(), pathFaults()) {
		checkRefused(t, f.name, changed(f.do), f.err)
	}
}

// P6.2: of two faults the error is the one that Check answers: what is met first.
func TestRefusedTwice(t *testing.T) {
	for _, first := range slices.Concat(headFaults()[:9], cmdFaults()[:2]) {
		for _, f := range slices.Concat(cmdFaults()[2:], pathFaults()) {
			x := changed(f.do)
			first.do(&x)
			checkRefused(t, first.name+", "+f.name, x, icon.Check(x))
		}
	}
	x := changed(func(x *api.Icon) { x.Scale, x.Colors, x.Cmds[0].Paths[0].Closed = 7, colors(257), true })
	checkRefused(t, "Scale, then colors, then a path", x, api.ErrRange)
	x.Scale = 1
	checkRefused(t, "colors, then a path", x, api.ErrLimit)
	x.Colors = nil
	checkRefused(t, "a color's place, then a path", x, api.ErrRange)
	x.Colors = colors(4)
	checkRefused(t, "a path", x, api.ErrCanon)
}

// P0.1: icons of no sense are refused, and Runs answers for each list.
func TestNonsense(t *testing.T) {
	l := []int{math.MinInt, -1, 0, 1, 2, 3, 4, math.MaxInt}
	for _, a := range l {
		for _, b := range l {
			for _, c := range l {
				seg := api.Seg{Kind: c, P: [3]api.Point{pt(int64(a), int64(b)), pt(int64(b), int64(c)), pt(int64(c), int64(a))}}
				p := api.Path{Start: pt(int64(b), int64(a)), Segs: []api.Seg{seg, {Kind: a}, seg}, Closed: a == b}
				cmd := api.Cmd{Kind: b, Rule: c, Width: int64(a), Paint: api.Paint{Kind: c, A: a, B: b, P: pt(int64(a), int64(b)), Q: pt(int64(c), int64(a))}, Paths: []api.Path{p, {}}}
				for _, x := range []api.Icon{{W: a, H: b, Scale: c, Cmds: []api.Cmd{cmd}}, {W: 1, H: 1, Colors: make([]api.Color, 3), Cmds: []api.Cmd{cmd, {}, cmd}}} {
					if got, err := Bytes(x); err == nil || len(got) > 0 {
						t.Errorf("of %d, %d, %d: % x, %v", a, b, c, got, err)
					}
				}
				n := 0
				for _, run := range Runs(p.Segs) {
					n += run[1]
				}
				if n != 3 {
					t.Errorf("runs of %d, %d: of %d segments", a, c, n)
				}
			}
		}
	}
}
