package encode

import (
	"bytes"
	"slices"
	"testing"

	"glyphic/api"
)

// P6.2: coordinates where z goes from one byte to two, to three and to four.
func TestCoordinates(t *testing.T) {
	for _, x := range []struct {
		n    int64
		want []byte
	}{
		{0, []byte{0}}, {-1, []byte{1}}, {1, []byte{2}}, {63, []byte{126}}, {-64, []byte{127}}, {64, []byte{0x80, 1}}, {-65, []byte{0x81, 1}},
		{8191, []byte{0xfe, 0x7f}}, {-8192, []byte{0xff, 0x7f}}, {8192, []byte{0x80, 0x80, 1}}, {-8193, []byte{0x81, 0x80, 1}},
		{1<<20 - 1, []byte{0xfe, 0xff, 0x7f}}, {-1 << 20, []byte{0xff, 0xff, 0x7f}}, {1 << 20, []byte{0x80, 0x80, 0x80, 1}},
	} {
		checkBytes(t, "Start.X", wide(fill(path(pt(x.n, 0), line(x.n, 0)))), wideHead, []byte{1, 0, 0, 1, 2}, x.want, []byte{0, 5, 0, 0})
		checkBytes(t, "Start.Y", wide(fill(path(pt(0, x.n), line(0, x.n)))), wideHead, []byte{1, 0, 0, 1, 2, 0}, x.want, []byte{5, 0, 0})
		checkBytes(t, "X", wide(fill(path(pt(0, 0), line(x.n, 0)))), wideHead, []byte{1, 0, 0, 1, 2, 0, 0, 5}, x.want, []byte{0})
		checkBytes(t, "Y", wide(fill(path(pt(0, 0), line(0, x.n)))), wideHead, []byte{1, 0, 0, 1, 2, 0, 0, 5, 0}, x.want)
		c := fill(short())
		c.Paint = api.Paint{Kind: api.Linear, P: pt(x.n, 5), Q: pt(7, x.n)}
		checkBytes(t, "linear", wide(c), wideHead, []byte{1, 4, 0, 0}, x.want, []byte{10, 14}, x.want, []byte{1}, shortBytes)
		c.Paint = api.Paint{Kind: api.Linear, P: pt(5, x.n), Q: pt(x.n, 7)}
		checkBytes(t, "linear", wide(c), wideHead, []byte{1, 4, 0, 0, 10}, x.want, x.want, []byte{14, 1}, shortBytes)
		c.Paint = api.Paint{Kind: api.Radial, P: pt(x.n, x.n), Q: pt(1, 0)}
		checkBytes(t, "radial", wide(c), wideHead, []byte{1, 8, 0, 0}, x.want, x.want, []byte{1, 1}, shortBytes)
	}
}

// P6.2: the greatest coordinate on both sides, and the way from one to the other.
func TestGreatest(t *testing.T) {
	const far = 1 << 20
	up, down := []byte{0x80, 0x80, 0x80, 1}, []byte{0xff, 0xff, 0x7f}
	across, back := []byte{0x80, 0x80, 0x80, 2}, []byte{0xff, 0xff, 0xff, 1}
	checkBytes(t, "lines", wide(fill(path(pt(far, -far), line(-far, far), line(far, -far)))), wideHead, []byte{1, 0, 0, 1, 2}, up, down, []byte{9}, back, across, across, back)
	checkBytes(t, "a cubic", wide(fill(path(pt(-far, -far), cubic(pt(far, far), pt(-far, far), pt(far, -far))))), wideHead, []byte{1, 0, 0, 1, 2}, down, down, []byte{7}, across, across, back, []byte{0}, across, back)
	checkBytes(t, "quads", wide(fill(path(pt(0, 0), quad(pt(far, -far), pt(0, 0)), quad(pt(-far, far), pt(0, 0))))), wideHead, []byte{1, 0, 0, 1, 2, 0, 0, 10}, up, down, down, up, down, up, up, down)
}

// P6.2: widths and radii have no sign: they go from one byte to two, to three.
func TestLengths(t *testing.T) {
	for _, x := range []struct {
		n    int64
		want []byte
	}{
		{1, []byte{1}}, {63, []byte{63}}, {64, []byte{64}}, {127, []byte{127}}, {128, []byte{0x80, 1}}, {16383, []byte{0xff, 0x7f}}, {16384, []byte{0x80, 0x80, 1}}, {1 << 20, []byte{0x80, 0x80, 0x40}},
	} {
		checkBytes(t, "width", wide(outline(x.n, short())), wideHead, []byte{1, 1}, x.want, []byte{0, 1}, shortBytes)
		c := outline(2, short())
		c.Paint = api.Paint{Kind: api.Radial, Q: pt(x.n, 0)}
		checkBytes(t, "radius", wide(c), wideHead, []byte{1, 9, 2, 0, 0, 0, 0}, x.want, []byte{1}, shortBytes)
	}
}

// varint is a number of at most two bytes, by hand.
func varint(n int) []byte {
	if n < 128 {
		return []byte{byte(n)}
	}
	return []byte{byte(n%128 + 128), byte(n / 128)}
}

// P6.2: up to as many colors as may be, and their places from 0 to the last.
func TestManyColors(t *testing.T) {
	for _, n := range []int{2, 126, 128, 130, 254, 256} {
		i := api.Icon{W: 1, H: 1, Colors: colors(n)}
		var ofColors, ofCmds []byte
		for _, c := range i.Colors {
			ofColors = append(ofColors, c.R, 200, c.B, 255)
		}
		for a := 0; a < n; a += 2 {
			c := fill(short())
			c.Paint = api.Paint{Kind: api.Radial, A: a, B: a + 1, Q: pt(3, 0)}
			i.Cmds = append(i.Cmds, c)
			ofCmds = slices.Concat(ofCmds, []byte{8}, varint(a), varint(a+1), []byte{0, 0, 3, 1}, shortBytes)
		}
		head := slices.Concat([]byte("GLY1"), []byte{1, 1, 0}, varint(n), ofColors)
		checkBytes(t, "colors", i, head, varint(n/2), ofCmds)
		last := fill(short())
		last.Paint.A = n - 1
		i.Cmds = append(i.Cmds, last)
		checkBytes(t, "a flat of the last", i, head, varint(n/2+1), ofCmds, []byte{0}, varint(n-1), []byte{1}, shortBytes)
	}
}

// P6.2: counts of one byte and of two, up to as many as may be.
func TestCounts(t *testing.T) {
	for _, n := range []int{1, 2, 126, 127, 128, 129, 199, 200} {
		checkBytes(t, "commands", small(slices.Repeat([]api.Cmd{fill(short())}, n)...), smallHead, varint(n), bytes.Repeat(slices.Concat([]byte{0, 0, 1}, shortBytes), n))
		checkBytes(t, "paths", small(fill(slices.Repeat([]api.Path{short()}, n)...)), smallHead, []byte{1, 0, 0}, varint(n), bytes.Repeat(shortBytes, n))
	}
	for _, n := range []int{1, 2, 30, 31, 32, 33, 399, 400} {
		for kind := 1; kind <= 3; kind++ {
			segs := slices.Repeat([]api.Seg{{Kind: kind}}, n)
			checkBytes(t, "segments", small(fill(path(pt(0, 0), segs...))), smallHead, []byte{1, 0, 0, 1, 2, 0, 0}, varint(n*4+kind), make([]byte, 2*kind*n))
		}
	}
	for _, n := range []int{1, 2, 31, 32, 33, 63, 64, 65, 200} {
		// Of n pairs each segment is a run of its own.
		p := path(pt(0, 0), slices.Repeat([]api.Seg{line(0, 0), quad(pt(0, 0), pt(0, 0))}, n)...)
		want := bytes.Repeat([]byte{5, 0, 0, 6, 0, 0, 0, 0}, n)
		checkBytes(t, "runs", small(fill(p)), smallHead, []byte{1, 0, 0, 1}, varint(4*n), []byte{0, 0}, want)
		checkBytes(t, "runs, closed", small(outline(1, closed(p))), smallHead, []byte{1, 1, 1, 0, 1}, varint(4*n+1), []byte{0, 0}, want)
	}
}

// P6.2: as many points as may be: 4000, starts among them.
func TestManyPoints(t *testing.T) {
	lines := slices.Repeat([]api.Seg{line(3, -2)}, 399)
	want := slices.Concat([]byte{2, 0, 0, 0xbd, 0x0c, 6, 3}, make([]byte, 2*398))
	ten := fill(slices.Repeat([]api.Path{path(pt(0, 0), lines...)}, 10)...)
	checkBytes(t, "10 paths of 400 points", small(ten), smallHead, []byte{1, 0, 0, 10}, bytes.Repeat(want, 10))
	one := fill(path(pt(0, 0), lines...))
	checkBytes(t, "10 commands of 400 points", small(slices.Repeat([]api.Cmd{one}, 10)...), smallHead, []byte{10}, bytes.Repeat(slices.Concat([]byte{0, 0, 1}, want), 10))
	all := slices.Repeat([]api.Cmd{outline(9, slices.Repeat([]api.Path{closed(short())}, 10)...)}, 200)
	back := slices.Concat([]byte{3}, shortBytes[1:])
	checkBytes(t, "200 commands of 10 paths", small(all...), smallHead, []byte{0xc8, 1}, bytes.Repeat(slices.Concat([]byte{1, 9, 0, 10}, bytes.Repeat(back, 10)), 200))
	cubics := fill(slices.Repeat([]api.Path{path(pt(0, 0), slices.Repeat([]api.Seg{{Kind: api.Cubic}}, 333)...)}, 4)...)
	checkBytes(t, "4 paths of 1000 points", small(cubics), smallHead, []byte{1, 0, 0, 4}, bytes.Repeat(slices.Concat([]byte{2, 0, 0, 0xb7, 0x0a}, make([]byte, 6*333)), 4))
	ten.Paths[9].Segs = append(slices.Clone(lines), line(0, 0))
	checkRefused(t, "one point more", small(ten), api.ErrLimit)
}
