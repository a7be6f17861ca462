package decode

import (
	"bytes"
	"encoding/binary"
	"errors"
	"slices"
	"testing"

	"glyphic/api"
	"glyphic/encode"
	"glyphic/icon"
)

func pt(x, y int64) api.Point { return api.Point{X: x, Y: y} }

func rgba(r, g, b, a uint8) api.Color { return api.Color{R: r, G: g, B: b, A: a} }

func line(x, y int64) api.Seg { return api.Seg{Kind: api.Line, P: [3]api.Point{pt(x, y)}} }

func quad(a, b api.Point) api.Seg { return api.Seg{Kind: api.Quad, P: [3]api.Point{a, b}} }

func cubic(a, b, c api.Point) api.Seg { return api.Seg{Kind: api.Cubic, P: [3]api.Point{a, b, c}} }

func path(start api.Point, segs ...api.Seg) api.Path { return api.Path{Start: start, Segs: segs} }

func closed(p api.Path) api.Path {
	p.Closed = true
	return p
}

// short is a path of few bytes: one line, from 0, 0 to 1, 0.
func short() api.Path { return path(pt(0, 0), line(1, 0)) }

// shortBytes are those of short().
var shortBytes = []byte{2, 0, 0, 5, 2, 0}

func fill(paths ...api.Path) api.Cmd { return api.Cmd{Kind: api.Fill, Paths: paths} }

func outline(width int64, paths ...api.Path) api.Cmd {
	return api.Cmd{Kind: api.Outline, Width: width, Paths: paths}
}

// painted is c with another paint.
func painted(c api.Cmd, p api.Paint) api.Cmd {
	c.Paint = p
	return c
}

// small has one color, and is 8 by 6 with one bit behind the point: its greatest coordinate is 64.
func small(cmds ...api.Cmd) api.Icon {
	return api.Icon{W: 8, H: 6, Scale: 1, Colors: []api.Color{{R: 10, G: 20, B: 30, A: 40}}, Cmds: cmds}
}

// smallHead are the bytes of small() ahead of how many commands there are.
var smallHead = []byte{0x47, 0x4c, 0x59, 0x31, 8, 6, 1, 1, 10, 20, 30, 40}

// wide is as great as may be: its greatest coordinate is 1 << 20.
func wide(cmds ...api.Cmd) api.Icon {
	return api.Icon{W: 4096, H: 4096, Scale: 6, Colors: []api.Color{{R: 255, G: 254, B: 128, A: 127}}, Cmds: cmds}
}

// wideHead are the bytes of wide() ahead of how many commands there are.
var wideHead = []byte{0x47, 0x4c, 0x59, 0x31, 0x80, 0x20, 0x80, 0x20, 6, 1, 255, 254, 128, 127}

// put are a number's bytes, by encoding/binary.
func put(n uint64) []byte { return binary.AppendUvarint(nil, n) }

// signed are those of a number with a sign.
func signed(n int64) []byte { return binary.AppendVarint(nil, n) }

// checkIcon holds Icon of the pieces, one behind the other, against want; and Bytes of it against them.
func checkIcon(t *testing.T, name string, want api.Icon, pieces ...[]byte) {
	t.Helper()
	b := slices.Concat(pieces...)
	got, err := Icon(b)
	if err != nil || !icon.Same(got, want) {
		t.Errorf("%s: %v, %v\nof % x, not\n%v", name, got, err, b, want)
		return
	}
	if back, err := encode.Bytes(got); icon.Check(got) != nil || err != nil || !bytes.Equal(back, b) {
		t.Errorf("%s: is not right: %v, or comes back as % x, %v", name, icon.Check(got), back, err)
	}
}

// checkFault holds Icon of b against an error around a place.
func checkFault(t *testing.T, name string, b []byte, pos int, want error) {
	t.Helper()
	got, err := Icon(b)
	var at *api.At
	if !errors.As(err, &at) || err != error(at) || at.Pos != pos || at.Err != want {
		t.Errorf("%s: %v, not %d: %v, of % x", name, err, pos, want, b[:min(len(b), 200)])
	}
	if !icon.Same(got, api.Icon{}) {
		t.Errorf("%s: beside the error: %v", name, got)
	}
}

// P7.1: the document's example.
func TestExample(t *testing.T) {
	checkFault(t, "nothing", nil, 0, api.ErrShort)
	checkFault(t, "nothing", []byte{}, 0, api.ErrShort)
}

// P7.1: no command, so no color.
func TestNothingDrawn(t *testing.T) {
	checkIcon(t, "the least", api.Icon{W: 1, H: 1}, []byte("GLY1"), []byte{1, 1, 0, 0, 0})
	checkIcon(t, "W is not H", api.Icon{W: 5, H: 7, Scale: 2}, []byte("GLY1"), []byte{5, 7, 2, 0, 0})
	checkIcon(t, "the greatest", api.Icon{W: 4096, H: 4096, Scale: 6}, []byte{0x47, 0x4c, 0x59, 0x31, 0x80, 0x20, 0x80, 0x20, 6, 0, 0})
	checkIcon(t, "wide", api.Icon{W: 4096, H: 127, Scale: 5}, []byte("GLY1"), []byte{0x80, 0x20, 0x7f, 5, 0, 0})
	checkIcon(t, "high", api.Icon{W: 128, H: 4095, Scale: 1}, []byte("GLY1"), []byte{0x80, 1, 0xff, 0x1f, 1, 0, 0})
}

// P7.1: a Fill with each rule, an Outline, each with each paint.
func TestCommands(t *testing.T) {
	evenOdd, nonZero := fill(short()), api.Cmd{Kind: api.Fill, Rule: api.NonZero, Paths: []api.Path{short()}}
	linear := api.Paint{Kind: api.Linear, P: pt(3, -4), Q: pt(-5, 6)}
	radial := api.Paint{Kind: api.Radial, P: pt(-1, 64), Q: pt(9, 0)}
	ofLinear, ofRadial := []byte{0, 0, 6, 7, 9, 12, 1}, []byte{0, 0, 1, 0x80, 1, 9, 1}
	for _, x := range []struct {
		name string
		cmd  api.Cmd
		want []byte
	}{
		{"even-odd, flat", evenOdd, []byte{0, 0, 1}},
		{"non-zero, flat", nonZero, []byte{2, 0, 1}},
		{"outline, flat", outline(7, short()), []byte{1, 7, 0, 1}},
		{"even-odd, linear", painted(evenOdd, linear), slices.Concat([]byte{4}, ofLinear)},
		{"non-zero, linear", painted(nonZero, linear), slices.Concat([]byte{6}, ofLinear)},
		{"outline, linear", painted(outline(7, short()), linear), slices.Concat([]byte{5, 7}, ofLinear)},
		{"even-odd, radial", painted(evenOdd, radial), slices.Concat([]byte{8}, ofRadial)},
		{"non-zero, radial", painted(nonZero, radial), slices.Concat([]byte{10}, ofRadial)},
		{"outline, radial", painted(outline(7, short()), radial), slices.Concat([]byte{9, 7}, ofRadial)},
	} {
		checkIcon(t, x.name, small(x.cmd), smallHead, []byte{1}, x.want, shortBytes)
		checkIcon(t, x.name+", twice", small(x.cmd, x.cmd), smallHead, []byte{2}, x.want, shortBytes, x.want, shortBytes)
		checkIcon(t, x.name+", behind others", small(nonZero, outline(2, short()), x.cmd), smallHead, []byte{3, 2, 0, 1}, shortBytes, []byte{1, 2, 0, 1}, shortBytes, x.want, shortBytes)
	}
}

// P7.1: a segment of each kind, alone and several; points are added to the one ahead, over runs too.
func TestSegments(t *testing.T) {
	start := pt(1, -2)
	one, two, three := line(4, 4), quad(pt(6, 3), pt(0, 0)), cubic(pt(-1, -1), pt(64, -64), pt(10, 11))
	for _, x := range []struct {
		name string
		segs []api.Seg
		want []byte
	}{
		{"a line", []api.Seg{one}, []byte{2, 2, 3, 5, 6, 12}},
		{"a quad", []api.Seg{two}, []byte{2, 2, 3, 6, 10, 10, 11, 5}},
		{"a cubic", []api.Seg{three}, []byte{2, 2, 3, 7, 3, 2, 0x82, 1, 0x7d, 0x6b, 0x96, 1}},
		{"lines", []api.Seg{one, line(4, 4), line(3, 5)}, []byte{2, 2, 3, 13, 6, 12, 0, 0, 1, 2}},
		{"quads", []api.Seg{two, quad(pt(0, 1), pt(2, 3))}, []byte{2, 2, 3, 10, 10, 10, 11, 5, 0, 2, 4, 4}},
		{"cubics", []api.Seg{three, three}, []byte{2, 2, 3, 11, 3, 2, 0x82, 1, 0x7d, 0x6b, 0x96, 1, 21, 23, 0x82, 1, 0x7d, 0x6b, 0x96, 1}},
		{"line, quad, cubic", []api.Seg{one, two, three}, []byte{6, 2, 3, 5, 6, 12, 6, 4, 1, 11, 5, 7, 1, 1, 0x82, 1, 0x7d, 0x6b, 0x96, 1}},
		{"line, quad, line, line", []api.Seg{one, two, one, line(5, 3)}, []byte{6, 2, 3, 5, 6, 12, 6, 4, 1, 11, 5, 9, 8, 8, 2, 1}},
		{"cubic, line", []api.Seg{three, one}, []byte{4, 2, 3, 7, 3, 2, 0x82, 1, 0x7d, 0x6b, 0x96, 1, 5, 11, 13}},
	} {
		checkIcon(t, x.name, small(fill(path(start, x.segs...))), smallHead, []byte{1, 0, 0, 1}, x.want)
		checkIcon(t, x.name+", not closed", small(outline(3, path(start, x.segs...))), smallHead, []byte{1, 1, 3, 0, 1}, x.want)
		back := slices.Clone(x.want)
		back[0]++
		checkIcon(t, x.name+", closed", small(outline(3, closed(path(start, x.segs...)))), smallHead, []byte{1, 1, 3, 0, 1}, back)
		// The next path starts from 0, 0, not from where this one ends, and its first run may be of any Kind.
		checkIcon(t, x.name+", twice, of one closed", small(outline(3, path(start, x.segs...), closed(path(start, x.segs...)), short())), smallHead, []byte{1, 1, 3, 0, 3}, x.want, back, shortBytes)
	}
}

// P7.1: colors part by part; used in their order, A ahead of B, and again.
func TestColors(t *testing.T) {
	i := api.Icon{W: 8, H: 6, Scale: 1, Colors: []api.Color{rgba(1, 2, 3, 4), rgba(0, 0, 0, 0), rgba(4, 3, 2, 1), rgba(255, 254, 253, 252), rgba(1, 2, 3, 5)}}
	head := []byte{0x47, 0x4c, 0x59, 0x31, 8, 6, 1, 5, 1, 2, 3, 4, 0, 0, 0, 0, 4, 3, 2, 1, 255, 254, 253, 252, 1, 2, 3, 5}
	add := func(a, b int) {
		p := api.Paint{Kind: api.Radial, A: a, B: b, Q: pt(1, 0)}
		i.Cmds = append(i.Cmds, painted(fill(short()), p))
	}
	add(0, 0)
	add(1, 0)
	add(0, 2)
	add(2, 1)
	add(3, 4)
	var body []byte
	for _, ab := range [][]byte{{0, 0}, {1, 0}, {0, 2}, {2, 1}, {3, 4}} {
		body = slices.Concat(body, []byte{8}, ab, []byte{0, 0, 1, 1}, shortBytes)
	}
	checkIcon(t, "pairs", i, head, []byte{5}, body)
	for n := range 5 {
		i.Cmds = append(i.Cmds, painted(fill(short()), api.Paint{A: n}))
		body = slices.Concat(body, []byte{0, byte(n), 1}, shortBytes)
		checkIcon(t, "and flat ones", i, head, []byte{byte(6 + n)}, body)
	}
	i.Cmds, i.Colors = i.Cmds[4:5], i.Colors[:2]
	i.Cmds[0].Paint.A, i.Cmds[0].Paint.B = 0, 1
	checkIcon(t, "B is the next behind A", i, []byte{0x47, 0x4c, 0x59, 0x31, 8, 6, 1, 2, 1, 2, 3, 4, 0, 0, 0, 0, 1, 8, 0, 1, 0, 0, 1, 1}, shortBytes)
}
