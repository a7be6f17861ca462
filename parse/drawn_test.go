package parse

import (
	"fmt"
	"strconv"
	"strings"
	"testing"

	"glyphic/api"
)

// draw is numbers without an end, the same in each run of the tests.
type draw struct{ state uint64 }

// below is a number from 0 to n - 1.
func (d *draw) below(n int) int {
	d.state = d.state*6364136223846793005 + 1442695040888963407
	return int(d.state >> 33 % uint64(n))
}

// writer draws a written icon and writes it, with drawn blanks, lines and remarks between all words: what it is, and where each word stands, is known without reading.
type writer struct {
	*draw
	text  strings.Builder
	marks bool // the last word is a Mark, or none
}

// word writes one, and is its place.
func (w *writer) word(s string) int {
	mark := strings.Contains("{};=", s)
	least := 1
	if mark || w.marks || s[0] == '-' {
		least = 0
	}
	for range least + w.below(3)*w.below(2) {
		w.text.WriteString([]string{" ", " ", "\t", "\n", "\r", "// icon 1 1;\n", "//\n", "\r\n // ? }\n"}[w.below(8)])
	}
	w.marks = mark
	at := w.text.Len()
	w.text.WriteString(s)
	return at
}

func (w *writer) words(all ...string) {
	for _, s := range all {
		w.word(s)
	}
}

// name is one of few, so that they come again, or of many.
func (w *writer) name() string {
	if w.below(3) == 0 {
		return fmt.Sprint("name_", w.below(1000000))
	}
	return []string{"a", "b", "z9", "m", "icons", strings.Repeat("long", 6)}[w.below(6)]
}

// number is one as text, and what it is in millionths.
func (w *writer) number() (string, int64) {
	whole := []int{0, 1, w.below(100), w.below(1000000), 999999}[w.below(5)]
	s := strconv.Itoa(whole)
	if w.below(4) == 0 {
		s = fmt.Sprintf("%06d", whole)
	}
	n := int64(whole) * 1000000
	if w.below(2) == 0 {
		part := w.below(1000000)
		digits := fmt.Sprintf("%06d", part)[:1+w.below(6)]
		s += "." + digits
		for k, unit := 0, int64(100000); k < len(digits); k, unit = k+1, unit/10 {
			n += int64(digits[k]-'0') * unit
		}
	}
	if w.below(3) == 0 {
		return "-" + s, -n
	}
	return s, n
}

func (w *writer) whole(below int) int {
	n := w.below(below)
	w.word(fmt.Sprintf("%0*d", 1+w.below(6), n))
	return n
}

func (w *writer) color() (string, api.Color) {
	c := rgba(uint8(w.below(256)), uint8(w.below(256)), uint8(w.below(256)), uint8(w.below(256)))
	if w.below(2) == 0 {
		c.A = 255
		return fmt.Sprintf("#%02x%02x%02x", c.R, c.G, c.B), c
	}
	return fmt.Sprintf("#%02x%02x%02x%02x", c.R, c.G, c.B, c.A), c
}

func (w *writer) val() api.Val {
	if w.below(2) == 0 {
		name := w.name()
		return api.Val{Name: name, Pos: w.word(name)}
	}
	s, n := w.number()
	return api.Val{N: n, Pos: w.word(s)}
}

func (w *writer) vals(n int) []api.Val {
	var l []api.Val
	for range n {
		l = append(l, w.val())
	}
	return l
}

func (w *writer) ref() api.Ref {
	if w.below(2) == 0 {
		name := w.name()
		return api.Ref{Name: name, Pos: w.word(name)}
	}
	s, c := w.color()
	return api.Ref{C: c, Pos: w.word(s)}
}

func (w *writer) path() api.Item {
	x := api.Item{Pos: w.word("path")}
	for range 1 + w.below(5) {
		kind := w.below(7)
		s := api.Step{Kind: kind + 1, Pos: w.word("MLQCABZ"[kind : kind+1])}
		s.V = w.vals([]int{2, 2, 4, 6, 2, 2, 0}[kind])
		x.Steps = append(x.Steps, s)
	}
	w.word(";")
	return x
}

func (w *writer) use() api.Item {
	x := api.Item{Use: true, Pos: w.word("use"), Name: w.name()}
	w.words(x.Name, "at")
	x.At = [2]api.Val(w.vals(2))
	x.By = api.Val{N: 1000000, Pos: x.Pos}
	if w.below(2) == 0 {
		w.word("by")
		x.By = w.val()
	}
	if w.below(2) == 0 {
		w.word("turn")
		x.Turn = w.whole(4)
	}
	w.word(";")
	return x
}

func (w *writer) items() []api.Item {
	var l []api.Item
	w.word("{")
	for range w.below(4) {
		if w.below(2) == 0 {
			l = append(l, w.path())
		} else {
			l = append(l, w.use())
		}
	}
	w.word("}")
	return l
}

func (w *writer) paint() api.SrcPaint {
	switch w.below(3) {
	case 0:
		w.word("linear")
		return api.SrcPaint{Kind: api.Linear, A: w.ref(), B: w.ref(), V: [4]api.Val(w.vals(4))}
	case 1:
		w.word("radial")
		p := api.SrcPaint{Kind: api.Radial, A: w.ref(), B: w.ref()}
		copy(p.V[:], w.vals(3))
		return p
	}
	return api.SrcPaint{Kind: api.Flat, A: w.ref()}
}

func (w *writer) cmd() api.SrcCmd {
	c := api.SrcCmd{}
	if w.below(2) == 0 {
		c.Pos, c.Kind, c.Width = w.word("line"), api.Outline, w.val()
	} else {
		c.Pos, c.Kind, c.Rule = w.word("fill"), api.Fill, w.below(2)
		w.word([]string{"evenodd", "nonzero"}[c.Rule])
	}
	c.Paint, c.Items = w.paint(), w.items()
	return c
}

func (w *writer) icon() api.Src {
	w.word("icon")
	s := api.Src{W: w.whole(1000000), H: w.whole(1000000)}
	if w.below(2) == 0 {
		w.word("scale")
		s.Scale = w.whole(1000000)
	}
	w.word(";")
	for range w.below(12) {
		switch w.below(5) {
		case 0:
			w.word("const")
			c := api.Const{Name: w.name()}
			c.Pos = w.word(c.Name)
			text, n := w.number()
			c.N = n
			w.words("=", text, ";")
			s.Consts = append(s.Consts, c)
		case 1:
			w.word("color")
			c := api.Named{Name: w.name()}
			c.Pos = w.word(c.Name)
			text, is := w.color()
			c.C = is
			w.words("=", text, ";")
			s.Colors = append(s.Colors, c)
		case 2:
			w.word("shape")
			x := api.Shape{Name: w.name()}
			x.Pos, x.Items = w.word(x.Name), w.items()
			s.Shapes = append(s.Shapes, x)
		default:
			s.Cmds = append(s.Cmds, w.cmd())
		}
	}
	return s
}

// P10.1: drawn icons are read as what was drawn, each word at its place.
func TestDrawnIcons(t *testing.T) {
	d := &draw{1}
	for range 3000 {
		w := &writer{draw: d, marks: true}
		want := w.icon()
		checkSrc(t, w.text.String(), want)
	}
}

// P10.1, P0.1: drawn icons with some of their words changed, told as the patterns tell.
func TestDrawnChanges(t *testing.T) {
	o, d := newOracle(), &draw{2}
	all, may := eachWord(), 0
	for range 6000 {
		words := strings.Fields(full)
		if d.below(2) == 0 {
			words = words[:d.below(len(words)+1)]
		}
		for range d.below(3) * d.below(2) {
			words = append(words, all[d.below(len(all))])
		}
		for range d.below(3) {
			if len(words) > 0 {
				words[d.below(len(words))] = all[d.below(len(all))]
			}
		}
		if o.check(t, strings.Join(words, []string{" ", "\n", " // } ;\n"}[d.below(3)])) {
			may++
		}
	}
	if may < 100 {
		t.Errorf("just %d may be", may)
	}
}

// P0.1: drawn rows of words and of bytes: each call ends, with what it takes or with a fault within the text.
func TestDrawnRows(t *testing.T) {
	d := &draw{3}
	all := append(eachWord(), "?", "//", "\n", "1x", "\xff")
	for range 20000 {
		s := []string{"", head, head + "line 1 a{", head + "shape a{path "}[d.below(4)]
		for range d.below(12) {
			s += all[d.below(len(all))] + []string{" ", "", "\n"}[d.below(3)]
		}
		got, err := Src(s)
		if err == nil {
			continue
		}
		at, ok := err.(*api.At)
		if !ok || at.Pos < 0 || at.Pos > len(s) || at.Err != api.ErrText && at.Err != api.ErrLimit || told(got) != told(api.Src{}) {
			t.Errorf("%q: %s, %v", s, told(got), err)
		}
	}
}
