package encode

import (
	"bytes"
	"encoding/binary"
	"reflect"
	"slices"
	"testing"

	"glyphic/api"
	"glyphic/icon"
)

// reader reads the chapter's order back; it panics where there is nothing to be read, so that it ends at wrong bytes too.
type reader struct{ b []byte }

func (r *reader) skip(size int) {
	if size < 1 {
		panic("no number")
	}
	r.b = r.b[size:]
}

func (r *reader) number() int {
	n, size := binary.Uvarint(r.b)
	r.skip(size)
	return int(n)
}

func (r *reader) signed() int64 {
	n, size := binary.Varint(r.b)
	r.skip(size)
	return n
}

func (r *reader) point() api.Point {
	x := r.signed()
	return pt(x, r.signed())
}

func (r *reader) icon() api.Icon {
	r.skip(4)
	i := api.Icon{W: r.number(), H: r.number(), Scale: r.number()}
	for range r.number() {
		i.Colors = append(i.Colors, api.Color{R: r.b[0], G: r.b[1], B: r.b[2], A: r.b[3]})
		r.skip(4)
	}
	for range r.number() {
		i.Cmds = append(i.Cmds, r.cmd())
	}
	return i
}

func (r *reader) cmd() api.Cmd {
	n := r.number()
	c := api.Cmd{Kind: n&1 + 1, Rule: n >> 1 & 1, Paint: api.Paint{Kind: n >> 2}}
	if c.Kind == api.Outline {
		c.Width = int64(r.number())
	}
	c.Paint.A = r.number()
	if c.Paint.Kind != api.Flat {
		c.Paint.B, c.Paint.P = r.number(), r.point()
	}
	switch c.Paint.Kind {
	case api.Linear:
		c.Paint.Q = r.point()
	case api.Radial:
		c.Paint.Q.X = int64(r.number())
	}
	for range r.number() {
		c.Paths = append(c.Paths, r.path())
	}
	return c
}

func (r *reader) path() api.Path {
	n := r.number()
	p := api.Path{Closed: n&1 == 1, Start: r.point()}
	at := p.Start
	for range n >> 1 {
		run := r.number()
		for range run >> 2 {
			s := api.Seg{Kind: run & 3}
			if s.Kind == 0 {
				panic("no Kind")
			}
			for k := range s.Kind {
				by := r.point()
				at = pt(at.X+by.X, at.Y+by.Y)
				s.P[k] = at
			}
			p.Segs = append(p.Segs, s)
		}
	}
	return p
}

// checkBack reads what Bytes answers, and holds it against i.
func checkBack(t *testing.T, name string, i api.Icon) []byte {
	t.Helper()
	b, err := Bytes(i)
	if err != nil {
		t.Fatalf("%s: %v", name, err)
	}
	defer func() {
		if r := recover(); r != nil {
			t.Fatalf("%s: can't be read back: %v: % x", name, r, b)
		}
	}()
	r := &reader{b}
	if got := r.icon(); !icon.Same(got, i) || len(r.b) > 0 {
		t.Errorf("%s: came back as\n%v, not\n%v; % x is left", name, got, i, r.b)
	}
	return b
}

// draw is numbers without an end, the same in each run of the tests.
type draw struct{ state uint64 }

// below is a number from 0 to n - 1.
func (d *draw) below(n int) int {
	d.state = d.state*6364136223846793005 + 1442695040888963407
	return int(d.state >> 33 % uint64(n))
}

// coordinate is one up to far on both sides, the ends and what is near 0 more often than others.
func (d *draw) coordinate(far int64) int64 {
	switch d.below(6) {
	case 0:
		return far
	case 1:
		return -far
	case 2:
		return int64(d.below(5)) - 2
	}
	return int64(d.below(int(2*far+1))) - far
}

func (d *draw) point(far int64) api.Point { return pt(d.coordinate(far), d.coordinate(far)) }

func (d *draw) path(far int64) api.Path {
	p := api.Path{Start: d.point(far)}
	for range 1 + d.below(6) {
		s := api.Seg{Kind: 1 + d.below(3)}
		for range 1 + d.below(4)*d.below(2) {
			for k := range s.Kind {
				s.P[k] = d.point(far)
			}
			p.Segs = append(p.Segs, s)
		}
	}
	return p
}

// paint is one whose colors were used so far, or are next.
func (d *draw) paint(used *int, far int64) api.Paint {
	next := func() int {
		n := d.below(*used + 1)
		*used = max(*used, n+1)
		return n
	}
	switch d.below(3) {
	case 0:
		p := api.Paint{Kind: api.Linear, A: next(), B: next(), P: d.point(far), Q: d.point(far)}
		if p.P == p.Q {
			p.P, p.Q = pt(0, 0), pt(0, 1)
		}
		return p
	case 1:
		return api.Paint{Kind: api.Radial, A: next(), B: next(), P: d.point(far), Q: pt(1+int64(d.below(int(far))), 0)}
	}
	return api.Paint{Kind: api.Flat, A: next()}
}

// icon is one that is right.
func (d *draw) icon() api.Icon {
	i := api.Icon{W: 1 + d.below(300), H: 1 + d.below(4096), Scale: d.below(7)}
	far, used := icon.Greatest(i), 0
	for range d.below(6) {
		c := api.Cmd{Kind: api.Fill, Rule: d.below(2), Paint: d.paint(&used, far)}
		if d.below(2) == 0 {
			c.Kind, c.Rule, c.Width = api.Outline, 0, 1+int64(d.below(int(far)))
		}
		for range 1 + d.below(4) {
			p := d.path(far)
			p.Closed = c.Kind == api.Outline && d.below(2) == 0
			c.Paths = append(c.Paths, p)
		}
		i.Cmds = append(i.Cmds, c)
	}
	for n := range used {
		i.Colors = append(i.Colors, api.Color{R: uint8(n), G: uint8(d.below(256)), B: uint8(d.below(256)), A: uint8(d.below(256))})
	}
	return i
}

// P6.2: what was written is all there, so unlike icons have unlike bytes.
func TestBack(t *testing.T) {
	checkBack(t, "all kinds", right())
	checkBack(t, "nothing drawn", api.Icon{W: 5, H: 7, Scale: 2})
	d := &draw{1}
	for range 3000 {
		checkBack(t, "a drawn one", d.icon())
	}
}

// ofPoint are changes of a point, each of one part.
func ofPoint(at func(x *api.Icon) *api.Point) []func(x *api.Icon) {
	return []func(x *api.Icon){
		func(x *api.Icon) { at(x).X += 2 }, func(x *api.Icon) { at(x).Y += 2 }, func(x *api.Icon) { at(x).X -= 17 }, func(x *api.Icon) { at(x).Y -= 17 }, func(x *api.Icon) { at(x).X += 33 }, func(x *api.Icon) { at(x).Y += 33 },
	}
}

// ofPath are changes of right()'s path p of the command c.
func ofPath(c, p int) []func(x *api.Icon) {
	at := func(x *api.Icon) *api.Path { return &x.Cmds[c].Paths[p] }
	out := ofPoint(func(x *api.Icon) *api.Point { return &at(x).Start })
	out = append(out, func(x *api.Icon) { at(x).Segs = at(x).Segs[1:] }, func(x *api.Icon) { at(x).Segs = at(x).Segs[:2] }, func(x *api.Icon) { slices.Reverse(at(x).Segs) }, func(x *api.Icon) { at(x).Segs = append(at(x).Segs, line(0, 0)) }, func(x *api.Icon) { at(x).Segs = append(at(x).Segs, line(0, 0), line(0, 0)) })
	for s, seg := range right().Cmds[c].Paths[p].Segs {
		for k := range seg.Kind {
			out = append(out, ofPoint(func(x *api.Icon) *api.Point { return &at(x).Segs[s].P[k] })...)
		}
		// The same points, of segments of other Kinds.
		if seg.Kind == api.Quad {
			out = append(out, func(x *api.Icon) {
				at(x).Segs = slices.Replace(at(x).Segs, s, s+1, line(seg.P[0].X, seg.P[0].Y), line(seg.P[1].X, seg.P[1].Y))
			})
		}
	}
	return out
}

// changes are changes of right() that leave it right.
func changes() []func(x *api.Icon) {
	out := []func(x *api.Icon){
		func(*api.Icon) {}, func(x *api.Icon) { x.W++ }, func(x *api.Icon) { x.H++ }, func(x *api.Icon) { x.Scale++ }, func(x *api.Icon) { x.W, x.H = x.H, x.W }, func(x *api.Icon) { slices.Reverse(x.Colors) },
		func(x *api.Icon) { x.Cmds = append(x.Cmds, x.Cmds[0]) }, func(x *api.Icon) { x.Cmds = append(x.Cmds, x.Cmds[1]) }, func(x *api.Icon) { x.Cmds, x.Colors = x.Cmds[:2], x.Colors[:3] }, func(x *api.Icon) { x.Cmds, x.Colors = nil, nil },
		func(x *api.Icon) { x.Cmds[0].Rule = 0 }, func(x *api.Icon) { x.Cmds[2].Rule = 1 }, func(x *api.Icon) { x.Cmds[1].Width++ }, func(x *api.Icon) { x.Cmds[0].Kind, x.Cmds[0].Rule, x.Cmds[0].Width = api.Outline, 0, 2 },
		func(x *api.Icon) { x.Cmds[1].Kind, x.Cmds[1].Width = api.Fill, 0 }, func(x *api.Icon) { x.Cmds[1].Paint.Kind, x.Cmds[1].Paint.Q.Y = api.Radial, 0 }, func(x *api.Icon) { x.Cmds[2].Paint.Kind = api.Linear }, func(x *api.Icon) { x.Cmds[2].Paint.A = 0 }, func(x *api.Icon) { x.Cmds[2].Paint.A = 1 }, func(x *api.Icon) { x.Cmds[2].Paint.A, x.Cmds[2].Paint.B = 3, 2 }, func(x *api.Icon) { x.Cmds[2].Paint.A, x.Cmds[2].Paint.B = 3, 3 }, func(x *api.Icon) { x.Cmds[2].Paint.Q.X++ },
		func(x *api.Icon) { x.Cmds[1].Paths[0].Closed = true }, func(x *api.Icon) { x.Cmds[1].Paths[1].Closed = true }, func(x *api.Icon) { x.Cmds[1].Paths[0].Closed, x.Cmds[1].Paths[1].Closed = true, true },
	}
	for n := range 4 {
		out = append(out, func(x *api.Icon) { x.Colors[n].R += 2 }, func(x *api.Icon) { x.Colors[n].G += 2 }, func(x *api.Icon) { x.Colors[n].B += 2 }, func(x *api.Icon) { x.Colors[n].A += 2 })
	}
	out = append(out, ofPoint(func(x *api.Icon) *api.Point { return &x.Cmds[1].Paint.P })...)
	out = append(out, ofPoint(func(x *api.Icon) *api.Point { return &x.Cmds[1].Paint.Q })...)
	out = append(out, ofPoint(func(x *api.Icon) *api.Point { return &x.Cmds[2].Paint.P })...)
	for c := range 3 {
		out = append(out, func(x *api.Icon) { slices.Reverse(x.Cmds[c].Paths) }, func(x *api.Icon) { x.Cmds[c].Paths = x.Cmds[c].Paths[1:] }, func(x *api.Icon) { x.Cmds[c].Paths = x.Cmds[c].Paths[:1] }, func(x *api.Icon) { x.Cmds[c].Paths = append(x.Cmds[c].Paths, short()) })
		out = append(out, ofPath(c, 0)...)
		out = append(out, ofPath(c, 1)...)
	}
	return out
}

// P6.2: icons that are unlike in one part have unlike bytes, each two of them; those that are alike have the same.
func TestUnlike(t *testing.T) {
	all := changes()
	seen := map[string]int{}
	for n, f := range all {
		x := changed(f)
		b := checkBack(t, "a changed one", x)
		if again, err := Bytes(changed(f)); err != nil || !bytes.Equal(b, again) {
			t.Errorf("%d: other bytes, made anew", n)
		}
		if m, ok := seen[string(b)]; ok && !icon.Same(x, changed(all[m])) {
			t.Errorf("%d and %d have the same bytes", m, n)
		}
		seen[string(b)] = n
	}
	if len(seen) < 200 {
		t.Errorf("only %d are unlike", len(seen))
	}
}

func behind[T any](list []T, more T) []T {
	return append(append([]T(nil), list...), more, more)[:len(list)]
}

// roomy is x in new memory, with something behind the end of each list.
func roomy(x api.Icon) api.Icon {
	x.Colors = behind(x.Colors, api.Color{R: 77})
	x.Cmds = behind(x.Cmds, api.Cmd{Kind: 77})
	for c := range x.Cmds {
		x.Cmds[c].Paths = behind(x.Cmds[c].Paths, api.Path{Closed: true})
		for p := range x.Cmds[c].Paths {
			x.Cmds[c].Paths[p].Segs = behind(x.Cmds[c].Paths[p].Segs, line(7, 7))
		}
	}
	return x
}

// whole is x with what lies behind the end of each list laid open.
func whole(x api.Icon) api.Icon {
	x.Colors = x.Colors[:len(x.Colors)+2]
	x.Cmds = slices.Clone(x.Cmds[:len(x.Cmds)+2])
	for c := range len(x.Cmds) - 2 {
		x.Cmds[c].Paths = slices.Clone(x.Cmds[c].Paths[:len(x.Cmds[c].Paths)+2])
		for p := range len(x.Cmds[c].Paths) - 2 {
			s := x.Cmds[c].Paths[p].Segs
			x.Cmds[c].Paths[p].Segs = s[:len(s)+2]
		}
	}
	return x
}

// P0.4: what is handed in stays as it is, and what lies behind the end of its lists is neither read nor written.
func TestHandedIn(t *testing.T) {
	for n, f := range changes() {
		plain, x, y := changed(f), roomy(changed(f)), roomy(changed(f))
		got, err := Bytes(x)
		want, wrong := Bytes(plain)
		if err != nil || wrong != nil || !bytes.Equal(got, want) {
			t.Errorf("%d: % x, %v, not % x, %v", n, got, err, want, wrong)
		}
		if !reflect.DeepEqual(whole(x), whole(y)) || !reflect.DeepEqual(plain, changed(f)) {
			t.Errorf("%d: Bytes changed it", n)
		}
		for c := range x.Cmds {
			for p, is := range x.Cmds[c].Paths {
				if !slices.Equal(Runs(is.Segs), Runs(plain.Cmds[c].Paths[p].Segs)) {
					t.Errorf("%d: Runs of command %d, path %d", n, c, p)
				}
			}
		}
		if !reflect.DeepEqual(whole(x), whole(y)) {
			t.Errorf("%d: Runs changed it", n)
		}
	}
}

// P0.4: each list handed out is new memory, its spare room too.
func TestHandedOut(t *testing.T) {
	for _, i := range []api.Icon{right(), {W: 1, H: 1}, small(fill(short()))} {
		a, _ := Bytes(i)
		kept := slices.Clone(a)
		b, _ := Bytes(i)
		clear(b[:cap(b)])
		c, _ := Bytes(i)
		if !bytes.Equal(a, kept) || !bytes.Equal(c, kept) {
			t.Errorf("answers of Bytes share memory: % x, % x, not % x", a, c, kept)
		}
		clear(a[:cap(a)])
		if !bytes.Equal(c, kept) {
			t.Errorf("answers of Bytes share memory: % x, not % x", c, kept)
		}
	}
	s := ofKinds(1, 2, 2, 3, 1)
	a, b := Runs(s), Runs(s)
	clear(b[:cap(b)])
	if want := [][2]int{{1, 1}, {2, 2}, {3, 1}, {1, 1}}; !slices.Equal(a, want) || !slices.Equal(Runs(s), want) {
		t.Errorf("answers of Runs share memory: %v", a)
	}
}
