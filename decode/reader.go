package decode

import (
	"slices"

	"glyphic/api"
	"glyphic/icon"
	"glyphic/wire"
)

// The first bytes of each icon.
const magic = "GLY1"

// reader reads the parts of an icon, one behind the other. Behind the first
// that is amiss it reads nothing any more: what its methods answer then is
// thrown away, so that just the loops have to ask for err.
type reader struct {
	b   []byte
	at  int // the place of the part that is next
	err error

	far    int64       // the greatest coordinate
	colors []api.Color // those read so far
	used   int         // how many of them
	points int         // those of all paths so far
	closes bool        // the command's paths may be Closed
}

// fail keeps what is amiss, unless something ahead of it was.
func (r *reader) fail(at int, err error) {
	if r.err == nil {
		r.err = &api.At{Pos: at, Err: err}
	}
}

// number is the next one, if the rule has no error for it.
func (r *reader) number(rule func(n uint64) error) uint64 {
	if r.err != nil {
		return 0
	}
	n, behind, err := wire.Get(r.b, r.at)
	if err != nil {
		r.err = err
		return 0
	}
	if err := rule(n); err != nil {
		r.fail(r.at, err)
		return 0
	}
	r.at = behind
	return n
}

// list is so many, each read by the method value one.
func list[T any](r *reader, count uint64, one func() T) []T {
	var out []T
	for range count {
		x := one()
		if r.err != nil {
			return nil
		}
		out = append(out, x)
	}
	return out
}

func (r *reader) icon() api.Icon {
	r.magic()
	units := between(1, api.MaxUnits)
	i := api.Icon{W: int(r.number(units)), H: int(r.number(units)), Scale: int(r.number(between(0, api.MaxScale)))}
	r.far = icon.Greatest(i)
	i.Colors = list(r, r.number(atMost(api.MaxColors)), r.color)
	i.Cmds = list(r, r.number(atMost(api.MaxCmds)), r.cmd)
	r.end()
	return i
}

func (r *reader) magic() {
	switch {
	case len(r.b) < len(magic):
		r.fail(0, api.ErrShort)
	case string(r.b[:len(magic)]) != magic:
		r.fail(0, api.ErrMagic)
	default:
		r.at = len(magic)
	}
}

func (r *reader) color() api.Color {
	four := r.b[r.at:]
	if len(four) < 4 {
		r.fail(r.at, api.ErrShort)
		return api.Color{}
	}
	c := api.Color{R: four[0], G: four[1], B: four[2], A: four[3]}
	if slices.Contains(r.colors, c) {
		r.fail(r.at, api.ErrCanon)
		return api.Color{}
	}
	r.colors = append(r.colors, c)
	r.at += 4
	return c
}

func (r *reader) end() {
	if r.used < len(r.colors) {
		r.fail(r.at, api.ErrCanon)
	}
	if r.at < len(r.b) {
		r.fail(r.at, api.ErrTrail)
	}
}

func (r *reader) cmd() api.Cmd {
	n := r.number(cmdRule)
	c := api.Cmd{Kind: int(n&1) + 1, Rule: int(n >> 1 & 1)}
	if c.Kind == api.Outline {
		c.Width = int64(r.number(r.lengthRule))
	}
	c.Paint = r.paint(int(n >> 2))
	r.closes = c.Kind == api.Outline
	c.Paths = list(r, r.number(pathsRule), r.path)
	return c
}

func (r *reader) paint(kind int) api.Paint {
	p := api.Paint{Kind: kind, A: r.place()}
	if kind == api.Flat {
		return p
	}
	p.B = r.place()
	p.P = r.point(api.Point{})
	if kind == api.Linear {
		p.Q = r.other(p.P)
	} else {
		p.Q.X = int64(r.number(r.lengthRule))
	}
	return p
}

// place is a color's, by which that color is used.
func (r *reader) place() int {
	n := int(r.number(r.placeRule))
	if n == r.used {
		r.used++
	}
	return n
}

// other is a point that is not p.
func (r *reader) other(p api.Point) api.Point {
	q := api.Point{X: r.part(0)}
	at := r.at
	q.Y = r.part(0)
	if q == p {
		r.fail(at, api.ErrRange)
	}
	return q
}

// point is one that is written as its way from the point ahead.
func (r *reader) point(ahead api.Point) api.Point {
	return api.Point{X: r.part(ahead.X), Y: r.part(ahead.Y)}
}

// part is a coordinate that is written as its way from the one ahead.
func (r *reader) part(ahead int64) int64 {
	n := r.number(func(n uint64) error {
		// The way may be any int64: the sum could wrap round, these can't.
		if way := wire.Zag(n); way < -r.far-ahead || way > r.far-ahead {
			return api.ErrRange
		}
		return nil
	})
	return ahead + wire.Zag(n)
}

func (r *reader) path() api.Path {
	n := r.number(r.pathRule)
	start := r.point(api.Point{})
	r.points++
	p := &pathReader{reader: r, last: start}
	for range n >> 1 {
		p.run()
		if r.err != nil {
			break
		}
	}
	return api.Path{Start: start, Segs: p.segs, Closed: n&1 == 1}
}

// pathReader reads the runs of a path.
type pathReader struct {
	*reader
	kind int       // of the run that is being read, or was the last one
	last api.Point // the one ahead
	segs []api.Seg
}

func (p *pathReader) run() {
	n := p.number(p.runRule)
	p.kind = int(n & 3)
	p.segs = append(p.segs, list(p.reader, n>>2, p.segment)...)
}

func (p *pathReader) segment() api.Seg {
	s := api.Seg{Kind: p.kind}
	for k := range s.Kind {
		p.last = p.point(p.last)
		s.P[k] = p.last
	}
	p.points += s.Kind
	return s
}
