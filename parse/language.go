package parse

import (
	"glyphic/api"
	"glyphic/word"
)

const maxSteps = 1000 // of a path

// more is l and behind it what the method value one reads. If most are there
// already, the next word may not be any more.
func more[T any](r *reader, l []T, most int, one func() T) []T {
	if len(l) == most {
		r.fail(api.ErrLimit)
	}
	return append(l, one())
}

func (r *reader) icon() api.Src {
	r.skip("icon")
	s := api.Src{W: r.whole(), H: r.whole()}
	if r.try("scale") {
		s.Scale = r.whole()
	}
	r.skip(";")
	for len(r.words) > 0 {
		r.part(&s)
	}
	return s
}

func (r *reader) part(s *api.Src) {
	switch {
	case r.try("const"):
		r.need(word.Name) // what is no name can't be there, however many there are
		s.Consts = more(r, s.Consts, api.MaxShapes, r.constant)
	case r.try("color"):
		r.need(word.Name)
		s.Colors = more(r, s.Colors, api.MaxShapes, r.named)
	case r.try("shape"):
		r.need(word.Name)
		s.Shapes = more(r, s.Shapes, api.MaxShapes, r.shape)
	case r.is("fill"), r.is("line"):
		s.Cmds = more(r, s.Cmds, api.MaxCmds, r.cmd)
	default:
		r.fail(api.ErrText)
	}
}

func (r *reader) constant() api.Const {
	w := r.name()
	r.skip("=")
	c := api.Const{Name: w.Text, N: r.number(), Pos: w.Pos}
	r.skip(";")
	return c
}

func (r *reader) named() api.Named {
	w := r.name()
	r.skip("=")
	c := api.Named{Name: w.Text, C: r.color(), Pos: w.Pos}
	r.skip(";")
	return c
}

func (r *reader) shape() api.Shape {
	w := r.name()
	return api.Shape{Name: w.Text, Pos: w.Pos, Items: r.items()}
}

func (r *reader) cmd() api.SrcCmd {
	c := api.SrcCmd{Pos: r.next().Pos}
	if r.try("fill") {
		c.Kind, c.Rule = api.Fill, r.rule()
	} else {
		r.skip("line")
		c.Kind, c.Width = api.Outline, r.val()
	}
	c.Paint = r.paint()
	c.Items = r.items()
	return c
}

func (r *reader) rule() int {
	if r.try("nonzero") {
		return api.NonZero
	}
	r.skip("evenodd")
	return api.EvenOdd
}

func (r *reader) paint() api.SrcPaint {
	switch {
	case r.try("linear"):
		return r.between(api.Linear, 4)
	case r.try("radial"):
		return r.between(api.Radial, 3)
	}
	return api.SrcPaint{Kind: api.Flat, A: r.ref()}
}

// between is a paint between two colors, with so many vals.
func (r *reader) between(kind, vals int) api.SrcPaint {
	p := api.SrcPaint{Kind: kind, A: r.ref(), B: r.ref()}
	r.vals(p.V[:vals])
	return p
}

func (r *reader) items() []api.Item {
	var l []api.Item
	r.skip("{")
	for r.is("path") || r.is("use") {
		l = more(r, l, api.MaxItems, r.item)
	}
	r.skip("}")
	return l
}

func (r *reader) item() api.Item {
	if r.is("path") {
		return r.path()
	}
	return r.use()
}

func (r *reader) path() api.Item {
	x := api.Item{Pos: r.next().Pos}
	r.skip("path")
	x.Steps = r.steps()
	r.skip(";")
	return x
}

func (r *reader) steps() []api.Step {
	var l []api.Step
	r.need(word.Step)
	for r.next().Kind == word.Step {
		l = more(r, l, maxSteps, r.step)
	}
	return l
}

func (r *reader) step() api.Step {
	w := r.take()
	kind, vals := letter(w.Text)
	s := api.Step{Kind: kind, Pos: w.Pos, V: make([]api.Val, vals)}
	r.vals(s.V)
	return s
}

// letter is the kind of a step, and how many vals it has.
func letter(text string) (kind, vals int) {
	switch text {
	case "M":
		return api.Move, 2
	case "L":
		return api.LineTo, 2
	case "Q":
		return api.QuadTo, 4
	case "C":
		return api.CubeTo, 6
	case "A":
		return api.ArcX, 2
	case "B":
		return api.ArcY, 2
	case "Z":
		return api.Close, 0
	}
	return 0, 0
}

func (r *reader) use() api.Item {
	x := api.Item{Use: true, Pos: r.next().Pos}
	r.skip("use")
	x.Name = r.name().Text
	r.skip("at")
	r.vals(x.At[:])
	x.By = api.Val{N: api.Micro, Pos: x.Pos}
	if r.try("by") {
		x.By = r.val()
	}
	if r.try("turn") {
		x.Turn = r.turn()
	}
	r.skip(";")
	return x
}
