package decode

import (
	"slices"
	"strings"
	"testing"

	"glyphic/api"
)

// part is a number of right(), or a color, with a name.
type part struct {
	name string
	b    []byte
}

// numbers are parts of a byte each, named one by one.
func numbers(ahead, names string, b ...byte) []part {
	var out []part
	for n, name := range strings.Fields(names) {
		out = append(out, part{ahead + name, b[n : n+1]})
	}
	return out
}

// right has a Flat fill, a Linear outline and a Radial fill; its greatest coordinate is 64.
func right() api.Icon {
	return api.Icon{W: 8, H: 6, Scale: 1, Colors: []api.Color{rgba(1, 2, 3, 4), rgba(0, 0, 0, 9), rgba(4, 3, 2, 1), rgba(255, 0, 128, 255)}, Cmds: []api.Cmd{
		{Kind: api.Fill, Rule: api.NonZero, Paint: api.Paint{Kind: api.Flat, A: 0}, Paths: []api.Path{
			path(pt(1, 2), line(3, 4), quad(pt(5, 6), pt(7, 8)), cubic(pt(9, 10), pt(11, 12), pt(13, 14))),
			path(pt(-20, 0), line(0, 0), line(30, -30)),
		}},
		{Kind: api.Outline, Width: 5, Paint: api.Paint{Kind: api.Linear, A: 1, B: 2, P: pt(3, -4), Q: pt(5, 6)}, Paths: []api.Path{
			closed(path(pt(0, 0), quad(pt(1, 2), pt(3, 4)), line(5, 5))),
			path(pt(7, 7), cubic(pt(0, 0), pt(-1, 1), pt(2, -2))),
		}},
		{Kind: api.Fill, Paint: api.Paint{Kind: api.Radial, A: 2, B: 3, P: pt(-7, 8), Q: pt(9, 0)}, Paths: []api.Path{
			path(pt(0, 0), line(0, 2)),
		}},
	}}
}

// parts are those of right(), by hand: a command is named by its place, a path by the command's and its own, a run by r
// and its place, X and Y of a point by the run's place, the segment's and its own.
func parts() []part {
	return slices.Concat(
		[]part{{"magic", []byte{0x47, 0x4c, 0x59, 0x31}}},
		numbers("", "W H Scale colors", 8, 6, 1, 4),
		[]part{{"color0", []byte{1, 2, 3, 4}}, {"color1", []byte{0, 0, 0, 9}}, {"color2", []byte{4, 3, 2, 1}}, {"color3", []byte{255, 0, 128, 255}}},
		numbers("", "cmds", 3),
		numbers("0:", "number A paths", 2, 0, 2),
		numbers("0.0:", "number Start.X Start.Y r0 X000 Y000", 6, 2, 4, 5, 4, 4),
		numbers("0.0:", "r1 X100 Y100 X101 Y101", 6, 4, 4, 4, 4),
		numbers("0.0:", "r2 X200 Y200 X201 Y201 X202 Y202", 7, 4, 4, 4, 4, 4, 4),
		numbers("0.1:", "number Start.X Start.Y r0 X000 Y000 X010 Y010", 2, 39, 0, 9, 40, 0, 60, 59),
		numbers("1:", "number Width A B P.X P.Y Q.X Q.Y paths", 5, 5, 1, 2, 6, 7, 10, 12, 2),
		numbers("1.0:", "number Start.X Start.Y r0 X000 Y000 X001 Y001", 5, 0, 0, 6, 2, 4, 4, 4),
		numbers("1.0:", "r1 X100 Y100", 5, 4, 2),
		numbers("1.1:", "number Start.X Start.Y r0 X000 Y000 X001 Y001 X002 Y002", 2, 14, 14, 7, 13, 13, 1, 2, 6, 5),
		numbers("2:", "number A B P.X P.Y Q.X paths", 8, 2, 3, 13, 16, 9, 1),
		numbers("2.0:", "number Start.X Start.Y r0 X000 Y000", 2, 0, 0, 5, 0, 4),
	)
}

// isNumber tells a number from the four bytes of a color, or of the beginning.
func (p part) isNumber() bool { return len(p.b) == 1 }

func join(all []part) []byte {
	var out []byte
	for _, p := range all {
		out = append(out, p.b...)
	}
	return out
}

// around are the bytes of right() ahead of a part, and those behind it.
func around(t *testing.T, name string) (ahead, behind []byte) {
	t.Helper()
	all := parts()
	n := slices.IndexFunc(all, func(p part) bool { return p.name == name })
	if n < 0 {
		t.Fatalf("no part %s", name)
	}
	return join(all[:n]), join(all[n+1:])
}

// checkPart holds right() with other bytes for one part against an error around that part's place, whatever is behind.
func checkPart(t *testing.T, name string, instead []byte, want error) {
	t.Helper()
	ahead, behind := around(t, name)
	b := slices.Concat(ahead, instead)
	checkFault(t, name+" as it is, the others behind it", slices.Concat(b, behind), len(ahead), want)
	checkFault(t, name+" as it is, nothing behind it", b, len(ahead), want)
	checkFault(t, name+" as it is, no number behind it", slices.Concat(b, []byte{0x80, 0, 0xff, 0xff}), len(ahead), want)
	checkFault(t, name+" as it is, noughts behind it", slices.Concat(b, make([]byte, 50)), len(ahead), want)
}

// checkParts is checkPart of several parts and numbers.
func checkParts(t *testing.T, names string, want error, numbers ...uint64) {
	t.Helper()
	for _, name := range strings.Fields(names) {
		for _, n := range numbers {
			checkPart(t, name, put(n), want)
		}
	}
}

// checkTaken: with another number for one part it is read, and comes back.
func checkTaken(t *testing.T, name string, n uint64, change func(x *api.Icon)) {
	t.Helper()
	ahead, behind := around(t, name)
	want := right()
	change(&want)
	checkIcon(t, name, want, ahead, put(n), behind)
}

// P7.1
func TestRight(t *testing.T) {
	checkIcon(t, "all kinds", right(), join(parts()))
}

// P7.1, P7.2, P0.9: bytes that are cut anywhere are not read: ErrShort around the part that is cut.
func TestCut(t *testing.T) {
	var ahead []byte
	for _, p := range parts() {
		for k := range p.b {
			checkFault(t, "cut in "+p.name, slices.Concat(ahead, p.b[:k]), len(ahead), api.ErrShort)
		}
		if p.isNumber() {
			for _, more := range [][]byte{{0x80}, {0xff}, {0x80, 0x80}, {0xff, 0xff, 0xff, 0xff, 0xff, 0xff, 0xff, 0xff, 0xff}} {
				checkFault(t, "cut in a long "+p.name, slices.Concat(ahead, more), len(ahead), api.ErrShort)
			}
		}
		ahead = append(ahead, p.b...)
	}
}

// P7.1: each number in a form that is not the short one, or that is none of 64 bits.
func TestVarint(t *testing.T) {
	nine := []byte{0xff, 0xff, 0xff, 0xff, 0xff, 0xff, 0xff, 0xff, 0xff}
	for _, p := range parts() {
		if !p.isNumber() {
			continue
		}
		checkPart(t, p.name, []byte{p.b[0] | 0x80, 0}, api.ErrVarint)
		checkPart(t, p.name, []byte{p.b[0] | 0x80, 0x80, 0}, api.ErrVarint)
		checkPart(t, p.name, []byte{0x80, 0}, api.ErrVarint)
		checkPart(t, p.name, append(slices.Clone(nine), 2), api.ErrVarint)
		checkPart(t, p.name, append(slices.Clone(nine), 0x81), api.ErrVarint)
		checkPart(t, p.name, append(slices.Clone(nine), 0), api.ErrVarint)
	}
}

// great are numbers that are out of each range, among them such as come to a small one if they are cut to 32 bits, or are taken with a sign.
var great = []uint64{5000, 1 << 31, 1<<32 + 1, 1<<32 + 5, 1 << 62, 1<<62 + 1, 1<<63 - 1, 1 << 63, 1<<63 + 5, 1<<64 - 8, 1<<64 - 2, 1<<64 - 1}

// P7.1: W, H, Scale.
func TestSize(t *testing.T) {
	checkParts(t, "W H", api.ErrRange, 0, 4097, 1<<32+8)
	checkParts(t, "Scale", api.ErrRange, 7, 8, 1<<32)
	checkParts(t, "W H Scale", api.ErrRange, great...)
	head := []byte("GLY1")
	for _, n := range []uint64{1, 2, 127, 128, 4095, 4096} {
		checkIcon(t, "W", api.Icon{W: int(n), H: 3}, head, put(n), []byte{3, 0, 0, 0})
		checkIcon(t, "H", api.Icon{W: 3, H: int(n)}, head, []byte{3}, put(n), []byte{0, 0, 0})
	}
	for n := range 7 {
		checkIcon(t, "Scale", api.Icon{W: 2, H: 3, Scale: n}, head, []byte{2, 3, byte(n), 0, 0})
	}
	checkTaken(t, "W", 9, func(x *api.Icon) { x.W = 9 })
	checkTaken(t, "W", 4096, func(x *api.Icon) { x.W = 4096 })
	checkTaken(t, "H", 1, func(x *api.Icon) { x.H = 1 })
	checkTaken(t, "H", 4096, func(x *api.Icon) { x.H = 4096 })
	checkTaken(t, "Scale", 6, func(x *api.Icon) { x.Scale = 6 })
}

// P7.1: how many colors there are; one that is one ahead, the last or another one.
func TestColorFaults(t *testing.T) {
	checkParts(t, "colors", api.ErrLimit, 257, 258, 1<<32+4)
	checkParts(t, "colors", api.ErrLimit, great...)
	all := parts()
	for _, p := range [][2]string{{"color1", "color0"}, {"color2", "color0"}, {"color2", "color1"}, {"color3", "color0"}, {"color3", "color1"}, {"color3", "color2"}} {
		n := slices.IndexFunc(all, func(x part) bool { return x.name == p[1] })
		checkPart(t, p[0], all[n].b, api.ErrCanon)
		// Not all four are there: that it may become one ahead is not told.
		ahead, _ := around(t, p[0])
		checkFault(t, "three of a color ahead", slices.Concat(ahead, all[n].b[:3]), len(ahead), api.ErrShort)
	}
	// One part is another: it is another color.
	for k := range 4 {
		c := []byte{1, 2, 3, 4}
		c[k] += 10
		ahead, behind := around(t, "color2")
		want := right()
		want.Colors[2] = rgba(c[0], c[1], c[2], c[3])
		checkIcon(t, "nearly color0", want, ahead, c, behind)
	}
}

// P7.1: how many commands; a command's number.
func TestCmdFaults(t *testing.T) {
	checkParts(t, "cmds", api.ErrLimit, 201, 202, 1<<32+3)
	checkParts(t, "cmds", api.ErrLimit, great...)
	checkParts(t, "0:number 1:number 2:number", api.ErrRange, 3, 7, 11, 12, 13, 14, 15, 16, 20, 24, 127, 128, 256, 260, 1<<32+2)
	checkParts(t, "0:number 1:number 2:number", api.ErrRange, great...)
	checkTaken(t, "0:number", 0, func(x *api.Icon) { x.Cmds[0].Rule = 0 })
	checkTaken(t, "2:number", 10, func(x *api.Icon) { x.Cmds[2].Rule = 1 })
}

// P7.1: widths and radii, which have no sign: 1 to the greatest, 64.
func TestLengths(t *testing.T) {
	checkParts(t, "1:Width 2:Q.X", api.ErrRange, 0, 65, 66, 128, 129, 1<<32+9)
	checkParts(t, "1:Width 2:Q.X", api.ErrRange, great...)
	for _, n := range []uint64{1, 2, 63, 64} {
		checkTaken(t, "1:Width", n, func(x *api.Icon) { x.Cmds[1].Width = int64(n) })
		checkTaken(t, "2:Q.X", n, func(x *api.Icon) { x.Cmds[2].Paint.Q.X = int64(n) })
	}
}

// P7.1: colors' places: no color's, then one that is above how many were used so far.
func TestPlaces(t *testing.T) {
	checkParts(t, "0:A 1:A 1:B 2:A 2:B", api.ErrRange, 4, 5, 127, 128, 256, 1<<32)
	checkParts(t, "0:A 1:A 1:B 2:A 2:B", api.ErrRange, great...)
	checkParts(t, "0:A", api.ErrCanon, 1, 2, 3)
	checkParts(t, "1:A", api.ErrCanon, 2, 3)
	checkParts(t, "1:B", api.ErrCanon, 3)
	for _, n := range []uint64{0, 1, 3} {
		checkTaken(t, "2:A", n, func(x *api.Icon) { x.Cmds[2].Paint.A = int(n) })
	}
	// A that was used is none that is used now: B is held against the same count.
	ahead, behind := around(t, "1:A")
	checkFault(t, "A again, B too far", slices.Concat(ahead, []byte{0}, behind), len(ahead)+1, api.ErrCanon)
	checkFault(t, "A no color's place, of no color", []byte{0x47, 0x4c, 0x59, 0x31, 1, 1, 0, 0, 1, 0, 0, 1, 2, 0, 0, 5, 0, 0}, 10, api.ErrRange)
}

// P7.1: how many paths; a path's number: no run, a Fill that is Closed, of both the first.
func TestPathFaults(t *testing.T) {
	checkParts(t, "0:paths 1:paths 2:paths", api.ErrRange, 0)
	checkParts(t, "0:paths 1:paths 2:paths", api.ErrLimit, 201, 202, 1<<32+1)
	checkParts(t, "0:paths 1:paths 2:paths", api.ErrLimit, great...)
	checkParts(t, "0.0:number 0.1:number 1.0:number 1.1:number 2.0:number", api.ErrRange, 0, 1)
	checkParts(t, "0.0:number 0.1:number 2.0:number", api.ErrCanon, 3, 5, 7, 127, 801, 803, 1<<32+1, 1<<63+1, 1<<64-1)
	checkTaken(t, "1.0:number", 4, func(x *api.Icon) { x.Cmds[1].Paths[0].Closed = false })
	checkTaken(t, "1.1:number", 3, func(x *api.Icon) { x.Cmds[1].Paths[1].Closed = true })
	// So many runs can't be: that is told where the bytes end.
	ahead, _ := around(t, "0.0:number")
	for _, n := range []uint64{8, 100, 1 << 32, 1 << 63, 1<<64 - 2} {
		whole := slices.Concat(ahead, put(n), []byte{2, 4, 5, 4, 4, 6, 4, 4, 4, 4})
		checkFault(t, "many runs", whole, len(whole), api.ErrShort)
	}
}

// P7.1: a run's number: no Kind, no segment, the Kind of the one ahead, too many; of several in that order.
func TestRunFaults(t *testing.T) {
	first, quads := "0.0:r0 0.1:r0 1.0:r0 1.1:r0 2.0:r0", "0.0:r2 1.0:r1"
	checkParts(t, first+" 0.0:r1 "+quads, api.ErrRange, 0, 1, 2, 3, 4, 8, 400, 1600, 1604, 1<<32, 1<<62, 1<<63, 1<<64-4)
	checkParts(t, first, api.ErrLimit, 1605, 1606, 1607, 1609, 4001, 1<<32+5, 1<<62+1, 1<<62+6, 1<<63+1, 1<<64-3, 1<<64-2, 1<<64-1)
	// Behind a Line, one segment: 399 are left.
	checkParts(t, "0.0:r1", api.ErrCanon, 5, 9, 397, 1601, 1605, 1<<32+1, 1<<63+1, 1<<64-3)
	checkParts(t, "0.0:r1", api.ErrLimit, 1602, 1603, 1606, 1607, 1<<32+2, 1<<63+3, 1<<64-1)
	// Behind a Quad; 398 are left, or 399.
	checkParts(t, quads, api.ErrCanon, 6, 10, 1602, 1606, 1<<32+2, 1<<63+2, 1<<64-2)
	checkParts(t, quads, api.ErrLimit, 1601, 1603, 1605, 1607, 1<<32+1, 1<<63+3, 1<<64-1)
	checkParts(t, "0.0:r2", api.ErrLimit, 1597, 1599)
	checkFault(t, "behind a Cubic, one more", slices.Concat(smallHead, []byte{1, 0, 0, 1, 4, 0, 0, 7, 0, 0, 0, 0, 0, 0, 7, 0, 0, 0, 0, 0, 0}), 26, api.ErrCanon)
	checkFault(t, "behind a Cubic, none", slices.Concat(smallHead, []byte{1, 0, 0, 1, 4, 0, 0, 7, 0, 0, 0, 0, 0, 0, 3, 0, 0, 0, 0, 0, 0}), 26, api.ErrRange)
}

// waysOf is a coordinate that is written as its way from the one ahead.
type waysOf struct {
	name  string
	ahead int64
	to    func(x *api.Icon) *int64
}

// point is the last one of a path's segment.
func point(x *api.Icon, cmd, path, seg int) *api.Point {
	s := &x.Cmds[cmd].Paths[path].Segs[seg]
	return &s.P[s.Kind-1]
}

// free are those coordinates of right() whose change leaves the others as they are.
func free() []waysOf {
	return []waysOf{
		{"1:P.X", 0, func(x *api.Icon) *int64 { return &x.Cmds[1].Paint.P.X }}, {"1:P.Y", 0, func(x *api.Icon) *int64 { return &x.Cmds[1].Paint.P.Y }},
		{"1:Q.X", 0, func(x *api.Icon) *int64 { return &x.Cmds[1].Paint.Q.X }}, {"1:Q.Y", 0, func(x *api.Icon) *int64 { return &x.Cmds[1].Paint.Q.Y }},
		{"2:P.X", 0, func(x *api.Icon) *int64 { return &x.Cmds[2].Paint.P.X }}, {"2:P.Y", 0, func(x *api.Icon) *int64 { return &x.Cmds[2].Paint.P.Y }},
		{"0.0:X202", 11, func(x *api.Icon) *int64 { return &point(x, 0, 0, 2).X }}, {"0.0:Y202", 12, func(x *api.Icon) *int64 { return &point(x, 0, 0, 2).Y }},
		{"0.1:X010", 0, func(x *api.Icon) *int64 { return &point(x, 0, 1, 1).X }}, {"0.1:Y010", 0, func(x *api.Icon) *int64 { return &point(x, 0, 1, 1).Y }},
		{"1.0:X100", 3, func(x *api.Icon) *int64 { return &point(x, 1, 0, 1).X }}, {"1.0:Y100", 4, func(x *api.Icon) *int64 { return &point(x, 1, 0, 1).Y }},
		{"1.1:X002", -1, func(x *api.Icon) *int64 { return &point(x, 1, 1, 0).X }}, {"1.1:Y002", 1, func(x *api.Icon) *int64 { return &point(x, 1, 1, 0).Y }},
		{"2.0:X000", 0, func(x *api.Icon) *int64 { return &point(x, 2, 0, 0).X }}, {"2.0:Y000", 0, func(x *api.Icon) *int64 { return &point(x, 2, 0, 0).Y }},
	}
}

// others are those on which more points hang: they may be out of range, too.
func others() []waysOf {
	return []waysOf{
		{"0.0:Start.X", 0, nil}, {"0.0:Start.Y", 0, nil}, {"0.1:Start.X", 0, nil}, {"0.1:Start.Y", 0, nil}, {"1.0:Start.X", 0, nil}, {"1.0:Start.Y", 0, nil}, {"1.1:Start.X", 0, nil}, {"1.1:Start.Y", 0, nil}, {"2.0:Start.X", 0, nil}, {"2.0:Start.Y", 0, nil},
		{"0.0:X000", 1, nil}, {"0.0:Y000", 2, nil}, {"0.0:X100", 3, nil}, {"0.0:Y100", 4, nil}, {"0.0:X101", 5, nil}, {"0.0:Y101", 6, nil}, {"0.0:X200", 7, nil}, {"0.0:Y201", 10, nil},
		{"0.1:X000", -20, nil}, {"0.1:Y000", 0, nil}, {"1.0:X000", 0, nil}, {"1.0:Y001", 2, nil}, {"1.1:X000", 7, nil}, {"1.1:Y001", 0, nil},
	}
}

// P7.1: parts of P, Q, Start, and sums, just at the greatest on both sides, one farther, and far away.
func TestParts(t *testing.T) {
	const far, most, least = 64, 1<<63 - 1, -1 << 63
	for _, w := range slices.Concat(free(), others()) {
		for _, way := range []int64{far + 1 - w.ahead, -far - 1 - w.ahead, far + 2 - w.ahead, 3 * far, -3 * far, 1 << 32, -1 << 32, 1<<32 + 1, most, most - 1, most - far, least, least + 1, least + far} {
			checkPart(t, w.name, signed(way), api.ErrRange)
		}
	}
	for _, w := range free() {
		ahead, behind := around(t, w.name)
		for _, n := range []int64{far, -far, far - 1, 1 - far, 0, 1, -1} {
			want := right()
			*w.to(&want) = n
			checkIcon(t, w.name, want, ahead, signed(n-w.ahead), behind)
		}
	}
}

// P7.1: a start at the greatest, and sums from there: each way goes back, or one farther.
func TestSums(t *testing.T) {
	for _, x := range []struct{ start, way int64 }{{64, 1}, {-64, -1}, {64, 1<<63 - 1}, {-64, -1 << 63}, {64, -129}, {-64, 129}, {1, 64}, {-1, -64}} {
		back, zero := signed(-x.start), signed(0)
		head := slices.Concat(smallHead, []byte{1, 0, 0, 1, 2})
		inX, inY := slices.Concat(head, signed(x.start), zero), slices.Concat(head, zero, signed(x.start))
		for kind := byte(1); kind <= 3; kind++ {
			b := slices.Concat(inX, []byte{4 + kind})
			checkFault(t, "X", slices.Concat(b, signed(x.way), make([]byte, 5)), len(b), api.ErrRange)
			b = slices.Concat(inY, []byte{4 + kind, 0})
			checkFault(t, "Y", slices.Concat(b, signed(x.way), make([]byte, 5)), len(b), api.ErrRange)
		}
		checkIcon(t, "back in X", small(fill(path(pt(x.start, 0), line(0, 0)))), inX, []byte{5}, back, zero)
		checkIcon(t, "back in Y", small(fill(path(pt(0, x.start), line(0, 0)))), inY, []byte{5}, zero, back)
		checkIcon(t, "across in X", small(fill(path(pt(x.start, 0), quad(pt(-x.start, 0), pt(x.start, 0))))), inX, []byte{6}, signed(-2*x.start), zero, signed(2*x.start), zero)
		checkIcon(t, "across in Y", small(fill(path(pt(0, x.start), quad(pt(0, -x.start), pt(0, x.start))))), inY, []byte{6}, zero, signed(-2*x.start), zero, signed(2*x.start))
	}
	const far = 1 << 20
	head := slices.Concat(wideHead, []byte{1, 0, 0, 1, 2})
	checkIcon(t, "as far as may be", wide(fill(path(pt(far, -far), line(-far, far), line(far, -far)))), head, signed(far), signed(-far), []byte{9}, signed(-2*far), signed(2*far), signed(2*far), signed(-2*far))
	for _, n := range []int64{far + 1, -far - 1} {
		checkFault(t, "a start farther", slices.Concat(head, signed(n), make([]byte, 4)), len(head), api.ErrRange)
		checkFault(t, "a sum farther", slices.Concat(head, []byte{0, 0, 5}, signed(n), []byte{0}), len(head)+3, api.ErrRange)
	}
	// The second of two steps goes beyond.
	checkFault(t, "a later one", slices.Concat(head, []byte{0, 0, 9}, signed(far), signed(-far), signed(0), signed(-1)), len(head)+11, api.ErrRange)
}

// P7.1: a Linear's Q is P: around Q.Y, both parts have to be the same.
func TestLinear(t *testing.T) {
	ahead, behind := around(t, "1:Q.X")
	behind = behind[1:]
	checkFault(t, "Q is P", slices.Concat(ahead, signed(3), signed(-4), behind), len(ahead)+1, api.ErrRange)
	checkFault(t, "Q is P, nothing behind", slices.Concat(ahead, signed(3), signed(-4)), len(ahead)+1, api.ErrRange)
	checkFault(t, "Q.X is P.X, and no Q.Y", slices.Concat(ahead, signed(3)), len(ahead)+1, api.ErrShort)
	for _, q := range []api.Point{pt(3, 4), pt(-3, -4), pt(-4, 3), pt(3, -5), pt(2, -4), pt(0, 0)} {
		want := right()
		want.Cmds[1].Paint.Q = q
		checkIcon(t, "Q is another", want, ahead, signed(q.X), signed(q.Y), behind)
	}
	body := []byte{1, 4, 0, 0, 0, 0, 0, 0, 1, 2, 0, 0, 5, 2, 0}
	checkFault(t, "both 0, 0", slices.Concat(smallHead, body), len(smallHead)+7, api.ErrRange)
	// A Radial's P may be its radius and 0.
	checkIcon(t, "radial", small(painted(fill(short()), api.Paint{Kind: api.Radial, P: pt(1, 0), Q: pt(1, 0)})), smallHead, []byte{1, 8, 0, 0, 2, 0, 1, 1}, shortBytes)
}

// P7.1: behind the last command: a color that is not used, then bytes that are left.
func TestEnd(t *testing.T) {
	b := join(parts())
	for _, more := range [][]byte{{0}, {1}, {0xff}, {0x80, 0}, make([]byte, 100), join(parts())} {
		checkFault(t, "more", slices.Concat(b, more), len(b), api.ErrTrail)
	}
	ahead, behind := around(t, "2:B")
	unused := slices.Concat(ahead, []byte{2}, behind)
	checkFault(t, "the last color is not used", unused, len(unused), api.ErrCanon)
	checkFault(t, "not used, and more", append(unused, 0), len(unused), api.ErrCanon)
	for n := range 4 {
		head := slices.Concat([]byte("GLY1"), []byte{8, 6, 1, byte(n)}, []byte{1, 2, 3, 4, 0, 0, 0, 9, 4, 3, 2, 1}[:4*n], []byte{0})
		want := error(api.ErrCanon)
		if n == 0 {
			want = api.ErrTrail
			checkIcon(t, "no color, no command", api.Icon{W: 8, H: 6, Scale: 1}, head)
		} else {
			checkFault(t, "no command", head, len(head), want)
		}
		checkFault(t, "no command, and more", append(head, 5), len(head), want)
	}
	two := []byte{0x47, 0x4c, 0x59, 0x31, 8, 6, 1, 2, 1, 2, 3, 4, 4, 3, 2, 1, 1, 0, 0, 1, 2, 0, 0, 5, 2, 0}
	checkFault(t, "the second of two", two, len(two), api.ErrCanon)
	// Fewer commands than are there: the others are left.
	ahead, behind = around(t, "cmds")
	checkFault(t, "a command less", slices.Concat(ahead, []byte{2}, behind), len(b)-13, api.ErrCanon)
	checkFault(t, "a command more", slices.Concat(ahead, []byte{4}, behind), len(b), api.ErrShort)
}
