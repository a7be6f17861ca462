package decode

import (
	"bytes"
	"slices"
	"testing"

	"glyphic/api"
	"glyphic/encode"
	"glyphic/icon"
)

// P7.1: longer than may be, ahead of all else that is amiss.
func TestLonger(t *testing.T) {
	b := join(parts())
	for _, n := range []int{60001, 60002, 70000} {
		checkFault(t, "noughts", make([]byte, n), 60000, api.ErrLimit)
		checkFault(t, "an icon, and more", slices.Concat(b, make([]byte, n-len(b))), 60000, api.ErrLimit)
		checkFault(t, "a wrong icon, and more", slices.Concat([]byte("GLY1"), make([]byte, n-4)), 60000, api.ErrLimit)
	}
	for _, n := range []int{59999, 60000} {
		checkFault(t, "noughts", make([]byte, n), 0, api.ErrMagic)
		checkFault(t, "an icon, and more", slices.Concat(b, make([]byte, n-len(b))), len(b), api.ErrTrail)
		checkFault(t, "a wrong icon, and more", slices.Concat([]byte("GLY1"), make([]byte, n-4)), 4, api.ErrRange)
	}
}

// P7.1: the first four bytes.
func TestMagic(t *testing.T) {
	for _, b := range []string{"", "G", "GL", "GLY", "x", "xyz", "\x00\x00\x00"} {
		checkFault(t, "fewer than four", []byte(b), 0, api.ErrShort)
	}
	for _, b := range []string{"GLY2", "GLY0", "gLY1", "GlY1", "GLy1", "GLY\x00", "glyph", "1YLG", "\x00\x00\x00\x00", " GLY1"} {
		checkFault(t, "others", []byte(b), 0, api.ErrMagic)
		checkFault(t, "others, and an icon", slices.Concat([]byte(b), join(parts()[1:])), 0, api.ErrMagic)
	}
	good := join(parts())
	for k := range 4 {
		for v := range 256 {
			b := slices.Clone(good)
			if b[k] = byte(v); b[k] != good[k] {
				checkFault(t, "another byte", b, 0, api.ErrMagic)
			}
		}
	}
	checkFault(t, "just the four", []byte("GLY1"), 4, api.ErrShort)
}

// ofColors is an icon of n colors, two a command, and its bytes ahead of the commands.
func ofColors(n int) (i api.Icon, head, cmds []byte) {
	i = api.Icon{W: 8, H: 6, Scale: 1}
	head = slices.Concat([]byte("GLY1"), []byte{8, 6, 1}, put(uint64(n)))
	for c := range n {
		i.Colors = append(i.Colors, rgba(byte(c), 200, byte(c>>8), 255))
		head = append(head, byte(c), 200, byte(c>>8), 255)
	}
	for a := 0; a < n; a += 2 {
		b := min(a+1, n-1)
		i.Cmds = append(i.Cmds, painted(fill(short()), api.Paint{Kind: api.Radial, A: a, B: b, Q: pt(3, 0)}))
		cmds = slices.Concat(cmds, []byte{8}, put(uint64(a)), put(uint64(b)), []byte{0, 0, 3, 1}, shortBytes)
	}
	return i, head, cmds
}

// P7.1: as many colors as may be, and one more.
func TestManyColors(t *testing.T) {
	for _, n := range []int{1, 2, 3, 127, 128, 129, 255, 256} {
		i, head, cmds := ofColors(n)
		checkIcon(t, "colors", i, head, put(uint64(len(i.Cmds))), cmds)
		// The last one stands for the first.
		twin := slices.Concat(head[:len(head)-4], []byte{0, 200, 0, 255}, put(uint64(len(i.Cmds))), cmds)
		if n > 1 {
			checkFault(t, "the last as the first", twin, len(head)-4, api.ErrCanon)
		}
		unused := slices.Concat(head, put(uint64(len(i.Cmds)-1)), cmds)
		last := len(unused) - len(lastCmd(i))
		checkFault(t, "a command less", unused, last, api.ErrCanon)
		for k := 1; k <= 4; k++ {
			checkFault(t, "the last is cut", head[:len(head)-k], len(head)-4, api.ErrShort)
		}
	}
	i, head, cmds := ofColors(257)
	checkFault(t, "one more", slices.Concat(head, put(uint64(len(i.Cmds))), cmds), 7, api.ErrLimit)
	// A place that would be one of a byte.
	_, head, _ = ofColors(2)
	for _, n := range []uint64{2, 256, 257, 1 << 32, 1<<32 + 1, 1 << 63} {
		b := slices.Concat(head, []byte{1, 0}, put(n), []byte{1}, shortBytes)
		checkFault(t, "no color's place", b, len(head)+2, api.ErrRange)
	}
}

// lastCmd are the bytes of the last command of ofColors.
func lastCmd(i api.Icon) []byte {
	p := i.Cmds[len(i.Cmds)-1].Paint
	return slices.Concat([]byte{8}, put(uint64(p.A)), put(uint64(p.B)), []byte{0, 0, 3, 1}, shortBytes)
}

// P7.1: as many commands and paths as may be, and one more.
func TestManyCommands(t *testing.T) {
	one := slices.Concat([]byte{0, 0, 1}, shortBytes)
	for _, n := range []int{1, 2, 127, 128, 199, 200} {
		checkIcon(t, "commands", small(slices.Repeat([]api.Cmd{fill(short())}, n)...), smallHead, put(uint64(n)), bytes.Repeat(one, n))
		checkIcon(t, "paths", small(fill(slices.Repeat([]api.Path{short()}, n)...)), smallHead, []byte{1, 0, 0}, put(uint64(n)), bytes.Repeat(shortBytes, n))
	}
	checkFault(t, "201 commands", slices.Concat(smallHead, put(201), bytes.Repeat(one, 201)), len(smallHead), api.ErrLimit)
	checkFault(t, "201 paths", slices.Concat(smallHead, []byte{1, 0, 0}, put(201), bytes.Repeat(shortBytes, 201)), len(smallHead)+3, api.ErrLimit)
	// Of each command so many may be, not of all together.
	two := slices.Concat([]byte{0, 0}, put(200), bytes.Repeat(shortBytes, 200))
	cmd := fill(slices.Repeat([]api.Path{short()}, 200)...)
	checkIcon(t, "200 paths each", small(cmd, cmd), smallHead, []byte{2}, two, two)
}

// alternate are n segments, each a run of its own, and their bytes.
func alternate(n int) (segs []api.Seg, b []byte) {
	for k := range n {
		kind := 1 + k%2
		segs = append(segs, api.Seg{Kind: kind})
		b = slices.Concat(b, []byte{byte(4 + kind)}, make([]byte, 2*kind))
	}
	return segs, b
}

// P7.1: as many segments of a path as may be, all its runs together, and one more.
func TestManySegments(t *testing.T) {
	head := slices.Concat(smallHead, []byte{1, 0, 0, 1})
	for _, n := range []int{1, 2, 31, 32, 399, 400} {
		for kind := 1; kind <= 3; kind++ {
			segs := slices.Repeat([]api.Seg{{Kind: kind}}, n)
			checkIcon(t, "one run", small(fill(path(pt(0, 0), segs...))), head, []byte{2, 0, 0}, put(uint64(4*n+kind)), make([]byte, 2*kind*n))
		}
		segs, b := alternate(n)
		checkIcon(t, "runs of one", small(fill(path(pt(0, 0), segs...))), head, put(uint64(2*n)), []byte{0, 0}, b)
	}
	for kind := 1; kind <= 3; kind++ {
		b := slices.Concat(head, []byte{2, 0, 0})
		checkFault(t, "401 in one run", slices.Concat(b, put(uint64(4*401+kind)), make([]byte, 2*kind*401)), len(b), api.ErrLimit)
	}
	_, b := alternate(401)
	whole := slices.Concat(head, put(2*401), []byte{0, 0}, b)
	checkFault(t, "401 runs", whole, len(whole)-3, api.ErrLimit)
	// So many runs are said to be there, but the segments end it.
	_, b = alternate(2000)
	checkFault(t, "2000 runs", slices.Concat(head, put(4000), []byte{0, 0}, b), len(whole)-3, api.ErrLimit)
	for _, n := range []int{1, 200, 399} {
		first := slices.Concat(head, []byte{4, 0, 0}, put(uint64(4*n+1)), make([]byte, 2*n))
		segs := slices.Concat(slices.Repeat([]api.Seg{line(0, 0)}, n), slices.Repeat([]api.Seg{{Kind: api.Cubic}}, 400-n))
		checkIcon(t, "two runs of 400 together", small(fill(path(pt(0, 0), segs...))), first, put(uint64(4*(400-n)+3)), make([]byte, 6*(400-n)))
		checkFault(t, "two runs of 401 together", slices.Concat(first, put(uint64(4*(401-n)+3)), make([]byte, 6*(401-n))), len(first), api.ErrLimit)
	}
	// Of each path so many may be: the next one begins anew.
	full := slices.Concat([]byte{2, 0, 0}, put(1601), make([]byte, 800))
	p := path(pt(0, 0), slices.Repeat([]api.Seg{line(0, 0)}, 400)...)
	checkIcon(t, "two paths of 400", small(fill(p, p)), smallHead, []byte{1, 0, 0, 2}, full, full)
}

// P7.1: as many points as may be, starts among them, and one more: around the number of the run's segments.
func TestManyPoints(t *testing.T) {
	full := path(pt(0, 0), slices.Repeat([]api.Seg{line(0, 0)}, 399)...)
	ofFull := slices.Concat([]byte{2, 0, 0}, put(4*399+1), make([]byte, 2*399))
	nine := slices.Concat(smallHead, []byte{1, 0, 0, 10}, bytes.Repeat(ofFull, 9))
	checkIcon(t, "4000 of lines", small(fill(slices.Repeat([]api.Path{full}, 10)...)), nine, ofFull)
	checkFault(t, "4001 of lines", slices.Concat(nine, []byte{2, 0, 0}, put(4*400+1), make([]byte, 800)), len(nine)+3, api.ErrLimit)
	for kind, most := range []int{0, 399, 199, 133} {
		if kind == 0 {
			continue
		}
		p := path(pt(0, 0), slices.Repeat([]api.Seg{{Kind: kind}}, most)...)
		checkIcon(t, "at most 400 more", small(fill(append(slices.Repeat([]api.Path{full}, 9), p)...)), nine, []byte{2, 0, 0}, put(uint64(4*most+kind)), make([]byte, 2*kind*most))
		checkFault(t, "more than 400 more", slices.Concat(nine, []byte{2, 0, 0}, put(uint64(4*(most+1)+kind)), make([]byte, 2*kind*(most+1))), len(nine)+3, api.ErrLimit)
	}
	// All runs of the path are counted, of the run that goes beyond all points.
	first := slices.Concat(nine, []byte{4, 0, 0}, put(4*397+1), make([]byte, 2*397))
	checkFault(t, "the second run goes beyond", slices.Concat(first, []byte{7, 0, 0, 0, 0, 0, 0}), len(first), api.ErrLimit)
	last := path(pt(0, 0), append(slices.Repeat([]api.Seg{line(0, 0)}, 397), quad(pt(0, 0), pt(0, 0)))...)
	checkIcon(t, "the second run just fills it", small(fill(append(slices.Repeat([]api.Path{full}, 9), last)...)), first, []byte{6, 0, 0, 0, 0})
}

// P7.1: each segment has as many points as its Kind, in runs, paths and commands ahead too.
func TestManyPointsOfKinds(t *testing.T) {
	for _, x := range []struct{ kind, segs, paths, left int }{{2, 399, 5, 5}, {2, 199, 10, 10}, {3, 333, 4, 0}, {3, 130, 10, 90}} {
		p := path(pt(0, 0), slices.Repeat([]api.Seg{{Kind: x.kind}}, x.segs)...)
		of := slices.Concat([]byte{2, 0, 0}, put(uint64(4*x.segs+x.kind)), make([]byte, 2*x.kind*x.segs))
		cmd, ofCmd := fill(slices.Repeat([]api.Path{p}, x.paths)...), slices.Concat([]byte{0, 0, byte(x.paths)}, bytes.Repeat(of, x.paths))
		one, two := slices.Concat(smallHead, []byte{1}, ofCmd), slices.Concat(smallHead, []byte{2}, ofCmd)
		checkIcon(t, "so many", small(cmd), one)
		// What is left, less the start, as lines: just so many, and one more.
		lines := x.left - 1
		if lines > 0 {
			last := fill(path(pt(0, 0), slices.Repeat([]api.Seg{line(0, 0)}, lines)...))
			checkIcon(t, "and those left", small(cmd, last), two, []byte{0, 0, 1, 2, 0, 0}, put(uint64(4*lines+1)), make([]byte, 2*lines))
		}
		more := max(lines+1, 1)
		b := slices.Concat(two, []byte{0, 0, 1, 2, 0, 0})
		checkFault(t, "and one more", slices.Concat(b, put(uint64(4*more+1)), make([]byte, 2*more)), len(b), api.ErrLimit)
	}
	// Runs of one path: 1 + 3*200 + 2*100 + 3*99 are 1098 points; three such are 3294.
	var segs []api.Seg
	var of []byte
	for _, run := range [][2]int{{3, 200}, {2, 100}, {3, 99}} {
		segs = append(segs, slices.Repeat([]api.Seg{{Kind: run[0]}}, run[1])...)
		of = slices.Concat(of, put(uint64(4*run[1]+run[0])), make([]byte, 2*run[0]*run[1]))
	}
	three := slices.Concat(smallHead, []byte{1, 0, 0, 4}, bytes.Repeat(slices.Concat([]byte{6, 0, 0}, of), 3))
	p, q := path(pt(0, 0), segs...), path(pt(0, 0), slices.Repeat([]api.Seg{{Kind: api.Cubic}}, 235)...)
	checkIcon(t, "706 are left", small(fill(p, p, p, q)), three, []byte{2, 0, 0}, put(4*235+3), make([]byte, 6*235))
	checkFault(t, "709 are too many", slices.Concat(three, []byte{2, 0, 0}, put(4*236+3), make([]byte, 6*236)), len(three)+3, api.ErrLimit)
	first := slices.Concat(three, []byte{4, 0, 0}, put(4*234+3), make([]byte, 6*234))
	checkFault(t, "a later run is too much", slices.Concat(first, put(4*2+2), make([]byte, 8)), len(first), api.ErrLimit)
}

// P7.1: no point is left for a path: its number and its start are read, and its first run is one too many.
func TestNoPointLeft(t *testing.T) {
	ofFull := slices.Concat([]byte{2, 0, 0}, put(4*399+1), make([]byte, 2*399))
	all := slices.Concat(smallHead, []byte{1, 0, 0, 11}, bytes.Repeat(ofFull, 10))
	for kind := byte(1); kind <= 3; kind++ {
		for _, length := range []byte{1, 2, 20} {
			checkFault(t, "another path", slices.Concat(all, []byte{2, 0, 0, 4*length + kind}, make([]byte, 200)), len(all)+3, api.ErrLimit)
		}
	}
	checkFault(t, "another path, that is cut", all, len(all), api.ErrShort)
	checkFault(t, "another path, no run", slices.Concat(all, []byte{0, 0, 0}), len(all), api.ErrRange)
	checkFault(t, "another path, its start too far", slices.Concat(all, []byte{2, 0}, signed(65), []byte{5, 0, 0}), len(all)+2, api.ErrRange)
	checkFault(t, "another path, no Kind", slices.Concat(all, []byte{2, 0, 0, 4, 0, 0}), len(all)+3, api.ErrRange)
	// One point is left: the start takes it.
	less := slices.Concat([]byte{2, 0, 0}, put(4*398+1), make([]byte, 2*398))
	one := slices.Concat(smallHead, []byte{1, 0, 0, 11}, bytes.Repeat(ofFull, 9), less)
	checkFault(t, "one is left", slices.Concat(one, shortBytes), len(one)+3, api.ErrLimit)
	// Points of all commands are counted.
	cmd := slices.Concat([]byte{0, 0, 5}, bytes.Repeat(ofFull, 5))
	two := slices.Concat(smallHead, []byte{3}, cmd, cmd)
	checkFault(t, "another command", slices.Concat(two, []byte{0, 0, 1}, shortBytes), len(two)+6, api.ErrLimit)
	if i, err := Icon(slices.Concat(smallHead, []byte{2}, cmd, cmd)); err != nil || icon.Points(i) != api.MaxPoints {
		t.Errorf("two commands: %d points, %v", icon.Points(i), err)
	}
}

// P7.1: of one number two are amiss: ErrRange, then ErrCanon, then ErrLimit, where the points are too many too.
func TestTwoOfOne(t *testing.T) {
	ofFull := slices.Concat([]byte{2, 0, 0}, put(4*399+1), make([]byte, 2*399))
	b := slices.Concat(smallHead, []byte{1, 0, 0, 10}, bytes.Repeat(ofFull, 9), []byte{4, 0, 0}, put(4*398+1), make([]byte, 2*398))
	for _, x := range []struct {
		name string
		n    uint64
		want error
	}{
		{"no Kind, too many points", 4 * 100, api.ErrRange}, {"no Kind, too many segments", 4 * 401, api.ErrRange}, {"the Kind ahead, no segment", 1, api.ErrRange}, {"no segment", 2, api.ErrRange}, {"nothing", 0, api.ErrRange},
		{"the Kind ahead, too many points", 4*2 + 1, api.ErrCanon}, {"the Kind ahead, too many segments", 4*3 + 1, api.ErrCanon}, {"the Kind ahead, far too many", 1<<63 + 1, api.ErrCanon},
		{"too many points", 4*1 + 2, api.ErrLimit}, {"too many of both", 4*3 + 3, api.ErrLimit},
	} {
		checkFault(t, x.name, slices.Concat(b, put(x.n), make([]byte, 30)), len(b), x.want)
	}
	checkFault(t, "the Kind ahead, and it fits", slices.Concat(b, []byte{5, 0, 0}), len(b), api.ErrCanon)
}

// P7.2: a right icon with as many commands, paths and points as may be, all of them far apart.
func TestLong(t *testing.T) {
	const far = 1 << 20
	i := api.Icon{W: 4096, H: 4096, Scale: 6}
	for n := range 200 {
		i.Colors = append(i.Colors, rgba(byte(n), 1, 2, 3))
		p := api.Paint{Kind: api.Linear, A: n, B: n, P: pt(far, -far), Q: pt(-far, far)}
		c := painted(outline(far), p)
		for range 10 {
			c.Paths = append(c.Paths, closed(path(pt(far, far), line(-far, -far))))
		}
		i.Cmds = append(i.Cmds, c)
	}
	b, err := encode.Bytes(i)
	if err != nil || len(b) > api.MaxBytes || len(b) < 30000 {
		t.Fatal(len(b), err)
	}
	checkIcon(t, "a long one", i, b)
	for _, k := range []int{len(b) - 1, len(b) / 2, len(b) / 3} {
		if _, err := Icon(b[:k]); err == nil {
			t.Errorf("read, cut to %d", k)
		}
	}
}
