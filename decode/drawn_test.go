package decode

import (
	"bytes"
	"encoding/binary"
	"errors"
	"reflect"
	"slices"
	"testing"

	"glyphic/api"
	"glyphic/encode"
	"glyphic/icon"
)

// loose reads the order of chapter 6 without asking whether what it reads may be; it panics where there is nothing.
type loose struct{ b []byte }

func (l *loose) skip(size int) {
	if size < 1 {
		panic("no number")
	}
	l.b = l.b[size:]
}

func (l *loose) number() int {
	n, size := binary.Uvarint(l.b)
	l.skip(size)
	return int(n)
}

// count is one of parts that have at least a byte each: more than are left make no sense.
func (l *loose) count() int {
	n := l.number()
	if n < 0 || n > len(l.b) {
		panic("too many")
	}
	return n
}

func (l *loose) point() api.Point {
	x, size := binary.Varint(l.b)
	l.skip(size)
	y, size := binary.Varint(l.b)
	l.skip(size)
	return pt(x, y)
}

func (l *loose) icon() api.Icon {
	l.skip(4)
	i := api.Icon{W: l.number(), H: l.number(), Scale: l.number()}
	for range l.count() {
		i.Colors = append(i.Colors, rgba(l.b[0], l.b[1], l.b[2], l.b[3]))
		l.skip(4)
	}
	for range l.count() {
		i.Cmds = append(i.Cmds, l.cmd())
	}
	return i
}

func (l *loose) cmd() api.Cmd {
	n := l.number()
	c := api.Cmd{Kind: n&1 + 1, Rule: n >> 1 & 1, Paint: api.Paint{Kind: n >> 2}}
	if c.Kind == api.Outline {
		c.Width = int64(l.number())
	}
	c.Paint.A = l.number()
	if c.Paint.Kind != api.Flat {
		c.Paint.B, c.Paint.P = l.number(), l.point()
	}
	switch c.Paint.Kind {
	case api.Linear:
		c.Paint.Q = l.point()
	case api.Radial:
		c.Paint.Q.X = int64(l.number())
	}
	for range l.count() {
		c.Paths = append(c.Paths, l.path())
	}
	return c
}

func (l *loose) path() api.Path {
	n := l.number()
	p := api.Path{Closed: n&1 == 1, Start: l.point()}
	last := p.Start
	for range n >> 1 {
		run := l.number()
		if run&3 == 0 {
			panic("no Kind")
		}
		for range run >> 2 {
			s := api.Seg{Kind: run & 3}
			for k := range s.Kind {
				by := l.point()
				last = pt(last.X+by.X, last.Y+by.Y)
				s.P[k] = last
			}
			p.Segs = append(p.Segs, s)
		}
	}
	return p
}

// isForm tells whether b are the bytes of a right icon: what b comes to, read loosely, is right, and its bytes are b.
func isForm(b []byte) (is bool) {
	defer func() {
		if recover() != nil {
			is = false
		}
	}()
	back, err := encode.Bytes((&loose{b}).icon())
	return err == nil && bytes.Equal(back, b)
}

// isOneOf tells whether err is one that the chapter names.
func isOneOf(err error) bool {
	return slices.Contains([]error{api.ErrLimit, api.ErrMagic, api.ErrShort, api.ErrVarint, api.ErrRange, api.ErrCanon, api.ErrTrail}, err)
}

// checkJust: b is read just if it is the bytes of a right icon, and comes back; else the error is around the place of
// a part ahead of which all is well. It tells whether b was read.
func checkJust(t *testing.T, b []byte) bool {
	t.Helper()
	i, err := Icon(b)
	if want := isForm(b); want != (err == nil) {
		t.Errorf("% x: %v; the bytes of a right icon: %v", b, err, want)
	}
	if err == nil {
		if back, wrong := encode.Bytes(i); icon.Check(i) != nil || wrong != nil || !bytes.Equal(back, b) {
			t.Errorf("% x: is %v, which is not right: %v; or comes back as % x, %v", b, i, icon.Check(i), back, wrong)
		}
		return true
	}
	var at *api.At
	if !errors.As(err, &at) || !isOneOf(at.Err) || at.Pos < 0 || at.Pos > len(b) || !reflect.ValueOf(i).IsZero() {
		t.Fatalf("% x: %v, %v", b, i, err)
	}
	_, cut := Icon(b[:at.Pos])
	if behind := new(api.At); at.Err == api.ErrTrail {
		if cut != nil {
			t.Errorf("% x: %v, but ahead of it: %v", b, err, cut)
		}
	} else if !errors.As(cut, &behind) || behind.Pos != at.Pos && at.Err != api.ErrMagic || behind.Err != api.ErrShort && (at.Err != api.ErrCanon || behind.Err != api.ErrCanon) {
		t.Errorf("% x: %v, but ahead of it: %v", b, err, cut)
	}
	return false
}

// draw is numbers without an end, the same in each run of the tests.
type draw struct{ state uint64 }

// below is a number from 0 to n - 1.
func (d *draw) below(n int) int {
	d.state = d.state*6364136223846793005 + 1442695040888963407
	return int(d.state >> 33 % uint64(n))
}

// coordinate is one up to far on both sides, the ends and what is near 0 more often than others.
func (d *draw) coordinate(far int64) int64 {
	switch d.below(6) {
	case 0:
		return far
	case 1:
		return -far
	case 2:
		return int64(d.below(5)) - 2
	}
	return int64(d.below(int(2*far+1))) - far
}

func (d *draw) point(far int64) api.Point { return pt(d.coordinate(far), d.coordinate(far)) }

func (d *draw) path(far int64) api.Path {
	p := api.Path{Start: d.point(far)}
	for range 1 + d.below(5) {
		s := api.Seg{Kind: 1 + d.below(3)}
		for range 1 + d.below(3)*d.below(2) {
			for k := range s.Kind {
				s.P[k] = d.point(far)
			}
			p.Segs = append(p.Segs, s)
		}
	}
	return p
}

// paint is one whose colors were used so far, or are next.
func (d *draw) paint(used *int, far int64) api.Paint {
	next := func() int {
		n := d.below(*used + 1)
		*used = max(*used, n+1)
		return n
	}
	switch d.below(3) {
	case 0:
		p := api.Paint{Kind: api.Linear, A: next(), B: next(), P: d.point(far), Q: d.point(far)}
		if p.P == p.Q {
			p.P, p.Q = pt(0, 0), pt(0, 1)
		}
		return p
	case 1:
		return api.Paint{Kind: api.Radial, A: next(), B: next(), P: d.point(far), Q: pt(1+int64(d.below(int(far))), 0)}
	}
	return api.Paint{Kind: api.Flat, A: next()}
}

// icon is one that is right.
func (d *draw) icon() api.Icon {
	i := api.Icon{W: 1 + d.below(300), H: 1 + d.below(4096), Scale: d.below(7)}
	if d.below(2) == 0 {
		i.W, i.H, i.Scale = 1+d.below(12), 1+d.below(12), d.below(3)
	}
	far, used := icon.Greatest(i), 0
	for range d.below(5) {
		c := api.Cmd{Kind: api.Fill, Rule: d.below(2), Paint: d.paint(&used, far)}
		if d.below(2) == 0 {
			c.Kind, c.Rule, c.Width = api.Outline, 0, 1+int64(d.below(int(far)))
		}
		for range 1 + d.below(3) {
			p := d.path(far)
			p.Closed = c.Kind == api.Outline && d.below(2) == 0
			c.Paths = append(c.Paths, p)
		}
		i.Cmds = append(i.Cmds, c)
	}
	for n := range used {
		i.Colors = append(i.Colors, rgba(byte(n), byte(d.below(256)), byte(d.below(256)), byte(d.below(256))))
	}
	return i
}

// P7.2, P0.9: bytes of a right icon are read, and are that icon; cut anywhere they are not, nor with one byte more.
func TestDrawn(t *testing.T) {
	d := &draw{1}
	for range 400 {
		i := d.icon()
		b, err := encode.Bytes(i)
		if err != nil {
			t.Fatal(err)
		}
		checkIcon(t, "a drawn one", i, b)
		for k := range b {
			var at *api.At
			if got, err := Icon(b[:k]); !errors.As(err, &at) || at.Err != api.ErrShort || at.Pos > k || at.Pos < k-10 && k > 10 || !icon.Same(got, api.Icon{}) {
				t.Fatalf("cut to %d: %v, %v, of % x", k, got, err, b)
			}
		}
		checkFault(t, "a byte more", append(slices.Clone(b), byte(d.below(256))), len(b), api.ErrTrail)
	}
}

// change is b with a few bytes changed, put in, taken out or repeated.
func (d *draw) change(b []byte) []byte {
	b = slices.Clone(b)
	for range 1 + d.below(2)*d.below(3) {
		k := 4 + d.below(len(b)-4)
		switch d.below(6) {
		case 0:
			b[k] = byte(d.below(256))
		case 1:
			b[k] = byte(d.below(14))
		case 2:
			b[k] ^= 1 << d.below(8)
		case 3:
			b = slices.Insert(b, k, byte(d.below(16)))
		case 4:
			if len(b) > 5 {
				b = slices.Delete(b, k, k+1)
			}
		case 5:
			end := min(len(b), k+1+d.below(9))
			b = slices.Insert(b, k, slices.Clone(b[k:end])...)
		}
	}
	return b
}

// P7.1, P7.2, P0.9: whatever is read is right and comes back, and all else is told.
func TestChanged(t *testing.T) {
	d := &draw{2}
	read := 0
	for range 300 {
		b, _ := encode.Bytes(d.icon())
		for range 200 {
			if checkJust(t, d.change(b)) {
				read++
			}
		}
	}
	if read < 5000 {
		t.Errorf("just %d were read", read)
	}
}

// P7.1, P7.2, P0.9: each byte of right(), each other value.
func TestEachByte(t *testing.T) {
	good := join(parts())
	for k := range good {
		for v := range 256 {
			b := slices.Clone(good)
			b[k] = byte(v)
			checkJust(t, b)
		}
		checkJust(t, slices.Delete(slices.Clone(good), k, k+1))
		for v := range 10 {
			checkJust(t, slices.Insert(slices.Clone(good), k, byte(v)))
		}
	}
}

// P7.1, P7.2, P0.9: all lists of some bytes, between a head and a tail that are right.
func TestAllShort(t *testing.T) {
	tail := slices.Concat([]byte{1}, shortBytes)
	for _, x := range []struct {
		head  []byte
		bytes []byte
		size  int
		tail  []byte
	}{
		{[]byte("GLY1"), []byte{0, 1, 2, 6, 7, 0x80, 0xa0}, 6, nil},
		{slices.Concat(smallHead, []byte{1, 0, 0, 1, 2, 0, 0}), []byte{0, 1, 2, 4, 5, 6, 9, 0x80, 0x81}, 5, nil},
		{slices.Concat(smallHead, []byte{1, 1, 5, 0}), []byte{0, 1, 2, 3, 5}, 7, nil},
		{slices.Concat(smallHead, []byte{1}), []byte{0, 1, 2, 3, 4, 5, 8, 12}, 4, tail},
		{slices.Concat(smallHead, []byte{1, 4}), []byte{0, 1, 2, 3}, 6, tail},
		{slices.Concat(smallHead, []byte{1, 9}), []byte{0, 1, 64, 65}, 6, tail},
	} {
		read := 0
		each(x.bytes, x.size, func(b []byte) {
			if checkJust(t, slices.Concat(x.head, b, x.tail)) {
				read++
			}
		})
		if read == 0 {
			t.Errorf("none behind % x was read", x.head)
		}
	}
}

// each hands over all lists of these bytes up to that size.
func each(of []byte, size int, use func(b []byte)) {
	list := make([]byte, 0, size)
	var next func()
	next = func() {
		use(list)
		if len(list) == size {
			return
		}
		for _, c := range of {
			list = append(list, c)
			next()
			list = list[:len(list)-1]
		}
	}
	next()
}

// P0.1: bytes of no sense are told, whatever they are.
func TestNonsense(t *testing.T) {
	d := &draw{3}
	for n := range 20000 {
		b := []byte("GLY1")
		if n%5 == 0 {
			b = nil
		}
		most := 4 + 252*(n%2)
		for range d.below(60) {
			b = append(b, byte(d.below(most)))
		}
		checkJust(t, b)
	}
	for _, c := range []byte{0, 1, 0x7f, 0x80, 0xff} {
		for _, n := range []int{1, 3, 4, 5, 100, 59996, 60000, 60001, 1 << 20} {
			if _, err := Icon(bytes.Repeat([]byte{c}, n)); err == nil {
				t.Errorf("%d times %d is read", n, c)
			}
			if _, err := Icon(slices.Concat([]byte("GLY1\x08\x06\x01\x00\x01\x00"), bytes.Repeat([]byte{c}, n))); err == nil {
				t.Errorf("%d times %d is read, behind a head", n, c)
			}
		}
	}
}
