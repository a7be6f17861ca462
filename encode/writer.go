package encode

import (
	"glyphic/api"
	"glyphic/wire"
)

// The first bytes of each icon.
const magic = "GLY1"

// writer writes the parts of an icon that Check has taken, one behind the other.
type writer struct {
	out []byte
}

func (w *writer) icon(i api.Icon) {
	w.out = append(w.out, magic...)
	w.count(i.W)
	w.count(i.H)
	w.count(i.Scale)
	list(w, i.Colors, w.color)
	list(w, i.Cmds, w.cmd)
}

// list writes how many there are, then each of them by the method value one.
func list[T any](w *writer, all []T, one func(T)) {
	w.count(len(all))
	for _, x := range all {
		one(x)
	}
}

func (w *writer) color(c api.Color) {
	w.out = append(w.out, c.R, c.G, c.B, c.A)
}

func (w *writer) cmd(c api.Cmd) {
	w.count(c.Kind - 1 + c.Rule*2 + c.Paint.Kind*4)
	if c.Kind == api.Outline {
		w.number(uint64(c.Width))
	}
	w.paint(c.Paint)
	list(w, c.Paths, w.path)
}

func (w *writer) paint(p api.Paint) {
	w.count(p.A)
	if p.Kind == api.Flat {
		return
	}
	w.count(p.B)
	w.point(p.P)
	if p.Kind == api.Linear {
		w.point(p.Q)
	} else {
		// A radius is above 0: it needs no sign.
		w.number(uint64(p.Q.X))
	}
}

func (w *writer) path(p api.Path) {
	runs := Runs(p.Segs)
	closed := 0
	if p.Closed {
		closed = 1
	}
	w.count(len(runs)*2 + closed)
	w.point(p.Start)
	segs, last := p.Segs, p.Start
	for _, run := range runs {
		kind, length := run[0], run[1]
		w.count(length*4 + kind)
		for _, s := range segs[:length] {
			last = w.segment(s, last)
		}
		segs = segs[length:]
	}
}

// segment writes the points of s, each as its way from the one ahead, and is the last of them.
func (w *writer) segment(s api.Seg, last api.Point) api.Point {
	for _, p := range s.P[:s.Kind] {
		w.point(api.Point{X: p.X - last.X, Y: p.Y - last.Y})
		last = p
	}
	return last
}

func (w *writer) point(p api.Point) {
	w.number(wire.Zig(p.X))
	w.number(wire.Zig(p.Y))
}

// count writes n, which is not below 0.
func (w *writer) count(n int) {
	w.number(uint64(n))
}

func (w *writer) number(n uint64) {
	// Put copies what it is handed: with all that is written so far, each number would cost as much as the whole.
	w.out = append(w.out, wire.Put(nil, n)...)
}
