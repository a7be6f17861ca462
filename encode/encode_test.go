package encode

import (
	"bytes"
	"math"
	"slices"
	"testing"

	"glyphic/api"
)

func pt(x, y int64) api.Point { return api.Point{X: x, Y: y} }

func line(x, y int64) api.Seg { return api.Seg{Kind: api.Line, P: [3]api.Point{pt(x, y)}} }

func quad(a, b api.Point) api.Seg { return api.Seg{Kind: api.Quad, P: [3]api.Point{a, b}} }

func cubic(a, b, c api.Point) api.Seg { return api.Seg{Kind: api.Cubic, P: [3]api.Point{a, b, c}} }

func path(start api.Point, segs ...api.Seg) api.Path { return api.Path{Start: start, Segs: segs} }

func closed(p api.Path) api.Path {
	p.Closed = true
	return p
}

// short is a path of few bytes: one line, from 0, 0 to 1, 0.
func short() api.Path { return path(pt(0, 0), line(1, 0)) }

// shortBytes are those of short().
var shortBytes = []byte{2, 0, 0, 5, 2, 0}

func fill(paths ...api.Path) api.Cmd { return api.Cmd{Kind: api.Fill, Paths: paths} }

func outline(width int64, paths ...api.Path) api.Cmd {
	return api.Cmd{Kind: api.Outline, Width: width, Paths: paths}
}

// colors are n that are unlike.
func colors(n int) []api.Color {
	var out []api.Color
	for c := range n {
		out = append(out, api.Color{R: uint8(c), G: 200, B: uint8(c >> 8), A: 255})
	}
	return out
}

// small has one color, and is 8 by 6 with one bit behind the point: its greatest coordinate is 64.
func small(cmds ...api.Cmd) api.Icon {
	return api.Icon{W: 8, H: 6, Scale: 1, Colors: []api.Color{{R: 10, G: 20, B: 30, A: 40}}, Cmds: cmds}
}

// smallHead are the bytes of small() ahead of how many commands there are.
var smallHead = []byte{0x47, 0x4c, 0x59, 0x31, 8, 6, 1, 1, 10, 20, 30, 40}

// wide is as great as may be: its greatest coordinate is 1 << 20.
func wide(cmds ...api.Cmd) api.Icon {
	return api.Icon{W: 4096, H: 4096, Scale: 6, Colors: []api.Color{{R: 255, G: 254, B: 128, A: 127}}, Cmds: cmds}
}

// wideHead are the bytes of wide() ahead of how many commands there are.
var wideHead = []byte{0x47, 0x4c, 0x59, 0x31, 0x80, 0x20, 0x80, 0x20, 6, 1, 255, 254, 128, 127}

// checkBytes holds Bytes against what is written out, piece by piece.
func checkBytes(t *testing.T, name string, i api.Icon, pieces ...[]byte) {
	t.Helper()
	want := slices.Concat(pieces...)
	if got, err := Bytes(i); err != nil || !bytes.Equal(got, want) {
		t.Errorf("%s: %v\n% x, not\n% x", name, err, got, want)
	}
}

// ofKinds are segments of these Kinds.
func ofKinds(kinds ...int) []api.Seg {
	var out []api.Seg
	for _, k := range kinds {
		out = append(out, api.Seg{Kind: k})
	}
	return out
}

// P6.1
func TestRuns(t *testing.T) {
	for _, x := range []struct {
		kinds []int
		want  [][2]int
	}{
		{nil, nil}, {[]int{}, nil}, // the document's example
		{[]int{1}, [][2]int{{1, 1}}}, {[]int{2}, [][2]int{{2, 1}}}, {[]int{3}, [][2]int{{3, 1}}},
		{[]int{1, 1}, [][2]int{{1, 2}}}, {[]int{2, 2, 2}, [][2]int{{2, 3}}}, {[]int{3, 3, 3, 3}, [][2]int{{3, 4}}}, {slices.Repeat([]int{2}, 400), [][2]int{{2, 400}}},
		{[]int{1, 2}, [][2]int{{1, 1}, {2, 1}}}, {[]int{2, 1}, [][2]int{{2, 1}, {1, 1}}}, {[]int{1, 2, 3}, [][2]int{{1, 1}, {2, 1}, {3, 1}}}, {[]int{3, 2, 1, 2, 3}, [][2]int{{3, 1}, {2, 1}, {1, 1}, {2, 1}, {3, 1}}},
		{[]int{1, 2, 1}, [][2]int{{1, 1}, {2, 1}, {1, 1}}}, {[]int{1, 1, 3, 1, 1, 1}, [][2]int{{1, 2}, {3, 1}, {1, 3}}}, {[]int{2, 2, 1, 1, 2, 2, 3, 2}, [][2]int{{2, 2}, {1, 2}, {2, 2}, {3, 1}, {2, 1}}},
		{[]int{1, 2, 2}, [][2]int{{1, 1}, {2, 2}}}, {[]int{1, 1, 2}, [][2]int{{1, 2}, {2, 1}}},
		// Runs asks of no Kind whether it may be.
		{[]int{0}, [][2]int{{0, 1}}}, {[]int{0, 0, 1}, [][2]int{{0, 2}, {1, 1}}}, {[]int{-1, -1, 4, 0, 4}, [][2]int{{-1, 2}, {4, 1}, {0, 1}, {4, 1}}}, {[]int{math.MinInt, math.MaxInt, math.MaxInt}, [][2]int{{math.MinInt, 1}, {math.MaxInt, 2}}},
	} {
		if got := Runs(ofKinds(x.kinds...)); !slices.Equal(got, x.want) {
			t.Errorf("Runs of %v: %v, not %v", x.kinds, got, x.want)
		}
	}
}

// P6.1: Kinds alone make the runs, not the points.
func TestRunsOfPoints(t *testing.T) {
	s := []api.Seg{line(1, 2), line(3, 4), line(1, 2), quad(pt(1, 2), pt(0, 0)), quad(pt(0, 0), pt(9, 9)), line(1, 2)}
	if got, want := Runs(s), [][2]int{{1, 3}, {2, 2}, {1, 1}}; !slices.Equal(got, want) {
		t.Errorf("%v, not %v", got, want)
	}
}

// P6.1: all lists of up to seven Kinds: no run is empty, none is of the Kind of
// the one ahead, and one after the other they are the list.
func TestRunsBack(t *testing.T) {
	lists := [][]int{nil}
	for n := 0; len(lists[n]) < 7; n++ {
		for k := 1; k <= 3; k++ {
			lists = append(lists, slices.Concat(lists[n], []int{k}))
		}
	}
	for _, list := range lists {
		var back []int
		last := 0
		for _, run := range Runs(ofKinds(list...)) {
			if run[1] < 1 || run[0] == last {
				t.Errorf("%v: a run %v behind one of the Kind %d", list, run, last)
			}
			last = run[0]
			back = append(back, slices.Repeat([]int{run[0]}, run[1])...)
		}
		if !slices.Equal(back, list) {
			t.Errorf("%v came back as %v", list, back)
		}
	}
}

// P6.2: no commands, with sizes of one byte and of two.
func TestNothingDrawn(t *testing.T) {
	for _, x := range []struct {
		w, h, scale int
		want        []byte
	}{
		{1, 1, 0, []byte{1, 1, 0}}, {24, 7, 3, []byte{24, 7, 3}}, {7, 24, 6, []byte{7, 24, 6}},
		{127, 128, 1, []byte{127, 0x80, 1, 1}}, {128, 127, 2, []byte{0x80, 1, 127, 2}}, {300, 5, 4, []byte{0xac, 2, 5, 4}}, {5, 300, 5, []byte{5, 0xac, 2, 5}}, {4096, 4095, 6, []byte{0x80, 0x20, 0xff, 0x1f, 6}},
	} {
		i := api.Icon{W: x.w, H: x.h, Scale: x.scale}
		checkBytes(t, "nil lists", i, []byte("GLY1"), x.want, []byte{0, 0})
		i.Colors, i.Cmds = []api.Color{}, []api.Cmd{}
		checkBytes(t, "empty lists", i, []byte("GLY1"), x.want, []byte{0, 0})
	}
}

// P6.2: each kind of command with each kind of paint.
func TestCommands(t *testing.T) {
	for _, head := range []struct {
		cmd   api.Cmd
		first byte // its number, without the paint
		width []byte
	}{
		{api.Cmd{Kind: api.Fill, Rule: api.EvenOdd}, 0, nil}, {api.Cmd{Kind: api.Fill, Rule: api.NonZero}, 2, nil},
		{api.Cmd{Kind: api.Outline, Width: 1}, 1, []byte{1}}, {api.Cmd{Kind: api.Outline, Width: 64}, 1, []byte{64}},
	} {
		for _, x := range []struct {
			paint api.Paint
			more  byte // of the number
			want  []byte
		}{
			{api.Paint{Kind: api.Flat}, 0, []byte{0}},
			{api.Paint{Kind: api.Linear, P: pt(3, -4), Q: pt(-5, 6)}, 4, []byte{0, 0, 6, 7, 9, 12}},
			{api.Paint{Kind: api.Linear, P: pt(0, 0), Q: pt(0, -1)}, 4, []byte{0, 0, 0, 0, 0, 1}},
			{api.Paint{Kind: api.Radial, P: pt(-7, 8), Q: pt(9, 0)}, 8, []byte{0, 0, 13, 16, 9}},
			{api.Paint{Kind: api.Radial, Q: pt(64, 0)}, 8, []byte{0, 0, 0, 0, 64}},
		} {
			c := head.cmd
			c.Paint, c.Paths = x.paint, []api.Path{short()}
			checkBytes(t, "a command", small(c), smallHead, []byte{1, head.first + x.more}, head.width, x.want, []byte{1}, shortBytes)
		}
	}
}

// P6.2: colors in their order, and their places in the paints.
func TestColors(t *testing.T) {
	flat := fill(short())
	flat.Paint.A = 1
	linear := outline(5, short())
	linear.Paint = api.Paint{Kind: api.Linear, A: 0, B: 2, Q: pt(1, 1)}
	radial := fill(short())
	radial.Paint = api.Paint{Kind: api.Radial, A: 3, B: 1, Q: pt(1, 0)}
	i := small(fill(short()), flat, linear, radial)
	i.Colors = []api.Color{{R: 1, G: 2, B: 3, A: 4}, {R: 255}, {A: 255}, {G: 128, B: 127}}
	checkBytes(t, "colors", i, []byte("GLY1"), []byte{8, 6, 1, 4, 1, 2, 3, 4, 255, 0, 0, 0, 0, 0, 0, 255, 0, 128, 127, 0, 4},
		[]byte{0, 0, 1}, shortBytes, []byte{0, 1, 1}, shortBytes, []byte{5, 5, 0, 2, 0, 0, 2, 2, 1}, shortBytes, []byte{8, 3, 1, 0, 0, 1, 1}, shortBytes)
}

// P6.2: each kind of segment, runs of them, and points ahead of and behind the one ahead.
func TestPaths(t *testing.T) {
	for n, x := range []struct {
		path api.Path
		want []byte
	}{
		{path(pt(0, 0), line(0, 0)), []byte{2, 0, 0, 5, 0, 0}},
		{path(pt(1, 2), line(4, 6)), []byte{2, 2, 4, 5, 6, 8}},
		{path(pt(-1, -2), line(-4, -6)), []byte{2, 1, 3, 5, 5, 7}},
		{path(pt(5, 6), line(5, 6), line(5, 6)), []byte{2, 10, 12, 9, 0, 0, 0, 0}},
		{path(pt(5, -5), line(-5, 5)), []byte{2, 10, 9, 5, 19, 20}},
		{path(pt(1, 2), quad(pt(4, 6), pt(3, 16))), []byte{2, 2, 4, 6, 6, 8, 1, 20}},
		{path(pt(1, 2), cubic(pt(4, 6), pt(3, 16), pt(0, 0))), []byte{2, 2, 4, 7, 6, 8, 1, 20, 5, 31}},
		// A run's points are behind its own number; the first is told from the last one of the run ahead.
		{path(pt(0, 0), line(1, 0), line(1, 2), quad(pt(2, 2), pt(2, 4)), cubic(pt(3, 3), pt(4, 4), pt(5, 5)), cubic(pt(4, 4), pt(3, 3), pt(2, 2)), line(0, 0)),
			[]byte{8, 0, 0, 9, 2, 0, 0, 4, 6, 2, 0, 0, 4, 11, 2, 1, 2, 2, 2, 2, 1, 1, 1, 1, 1, 1, 5, 3, 3}},
		{path(pt(0, 0), line(1, 1), quad(pt(2, 2), pt(3, 3)), line(4, 4), quad(pt(5, 5), pt(6, 6))),
			[]byte{8, 0, 0, 5, 2, 2, 6, 2, 2, 2, 2, 5, 2, 2, 6, 2, 2, 2, 2}},
	} {
		checkBytes(t, "filled", small(fill(x.path)), smallHead, []byte{1, 0, 0, 1}, x.want)
		checkBytes(t, "outlined", small(outline(2, x.path)), smallHead, []byte{1, 1, 2, 0, 1}, x.want)
		back := slices.Clone(x.want)
		back[0]++
		checkBytes(t, "outlined, closed", small(outline(2, closed(x.path))), smallHead, []byte{1, 1, 2, 0, 1}, back)
		if t.Failed() {
			t.Fatalf("path %d", n)
		}
	}
}

// P6.2: each path begins anew: its Start is told whole.
func TestSeveral(t *testing.T) {
	a, b := path(pt(10, 20), line(30, 40)), path(pt(10, 20), quad(pt(9, 20), pt(9, 19)))
	aBytes, bBytes := []byte{2, 20, 40, 5, 40, 40}, []byte{2, 20, 40, 6, 1, 0, 0, 1}
	bClosed := []byte{3, 20, 40, 6, 1, 0, 0, 1}
	checkBytes(t, "two paths", small(fill(a, b)), smallHead, []byte{1, 0, 0, 2}, aBytes, bBytes)
	checkBytes(t, "the other way", small(fill(b, a)), smallHead, []byte{1, 0, 0, 2}, bBytes, aBytes)
	checkBytes(t, "one of them closed", small(outline(3, a, closed(b), b)), smallHead, []byte{1, 1, 3, 0, 3}, aBytes, bClosed, bBytes)
	checkBytes(t, "two commands", small(fill(a), outline(7, b)), smallHead, []byte{2, 0, 0, 1}, aBytes, []byte{1, 7, 0, 1}, bBytes)
	checkBytes(t, "three commands", small(outline(7, closed(b), a), fill(a, b), fill(b)), smallHead,
		[]byte{3, 1, 7, 0, 2}, bClosed, aBytes, []byte{0, 0, 2}, aBytes, bBytes, []byte{0, 0, 1}, bBytes)
}
