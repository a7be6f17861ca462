package names

import (
	"fmt"
	"slices"
	"testing"

	"glyphic/api"
)

// draw is numbers without an end, the same in each run of the tests.
type draw struct{ state uint64 }

// below is a number from 0 to n - 1.
func (d *draw) below(n int) int {
	d.state = d.state*6364136223846793005 + 1442695040888963407
	return int(d.state >> 33 % uint64(n))
}

// claim is a name that has to be somebody's, and what is told if it is nobody's.
type claim struct {
	among []string
	name  string
	pos   int
}

// claims are those of an icon, in the chapter's order.
type claims struct {
	consts, colors, shapes []string
	all                    []claim
}

func (c *claims) vals(l ...api.Val) {
	for _, v := range l {
		if v.Name != "" {
			c.all = append(c.all, claim{c.consts, v.Name, v.Pos})
		}
	}
}

func (c *claims) ref(r api.Ref) {
	if r.Name != "" {
		c.all = append(c.all, claim{c.colors, r.Name, r.Pos})
	}
}

func (c *claims) items(l []api.Item, shapes []string) {
	for _, x := range l {
		if x.Use {
			c.all = append(c.all, claim{shapes, x.Name, x.Pos})
			c.vals(x.At[0], x.At[1], x.By)
			continue
		}
		for _, s := range x.Steps {
			c.vals(s.V...)
		}
	}
}

// twice is the first place whose name stands ahead of it, too.
func twice(all []string) int {
	for k, name := range all {
		if slices.Index(all, name) < k {
			return k
		}
	}
	return -1
}

// fault is what the chapter tells of s.
func fault(s api.Src) (int, error) {
	c := &claims{}
	for _, x := range s.Consts {
		c.consts = append(c.consts, x.Name)
	}
	for _, x := range s.Colors {
		c.colors = append(c.colors, x.Name)
	}
	for _, x := range s.Shapes {
		c.shapes = append(c.shapes, x.Name)
	}
	if k := twice(c.consts); k >= 0 {
		return s.Consts[k].Pos, api.ErrTwice
	}
	if k := twice(c.colors); k >= 0 {
		return s.Colors[k].Pos, api.ErrTwice
	}
	if k := twice(c.shapes); k >= 0 {
		return s.Shapes[k].Pos, api.ErrTwice
	}
	for k, x := range s.Shapes {
		c.items(x.Items, c.shapes[:k])
	}
	for _, x := range s.Cmds {
		c.vals(x.Width)
		c.ref(x.Paint.A)
		c.ref(x.Paint.B)
		c.vals(x.Paint.V[:]...)
		c.items(x.Items, c.shapes)
	}
	for _, x := range c.all {
		if !slices.Contains(x.among, x.name) {
			return x.pos, api.ErrName
		}
	}
	return 0, nil
}

// checkIcon holds Check, New and what New makes against the chapter; it tells what is amiss.
func checkIcon(t *testing.T, s api.Src) error {
	t.Helper()
	was := fmt.Sprintf("%#v", s)
	pos, want := fault(s)
	if err := Check(s); !isFault(err, pos, want) {
		t.Errorf("Check(%+v): %v, not %v at %d", s, err, want, pos)
	}
	c, err := New(s)
	if want == api.ErrTwice {
		if c != nil || !isFault(err, pos, want) {
			t.Errorf("New(%+v): %v, not %v at %d", s, err, want, pos)
		}
	} else if c == nil || err != nil {
		t.Errorf("New(%+v): %v", s, err)
	} else {
		checkFound(t, c, s)
	}
	if is := fmt.Sprintf("%#v", s); is != was {
		t.Errorf("%s\nwas\n%s", is, was)
	}
	return want
}

// checkFound: each name of s is found.
func checkFound(t *testing.T, c *Scope, s api.Src) {
	t.Helper()
	for _, x := range s.Consts {
		if n, err := c.Val(api.Val{Name: x.Name, N: x.N}); n != x.N || err != nil {
			t.Errorf("%+v: %d, %v", x, n, err)
		}
	}
	for _, x := range s.Colors {
		if y, err := c.Ref(api.Ref{Name: x.Name, C: x.C}); y != x.C || err != nil {
			t.Errorf("%+v: %v, %v", x, y, err)
		}
	}
	for k, x := range s.Shapes {
		if at := c.Shape(x.Name); at != k {
			t.Errorf("%q: %d, not %d", x.Name, at, k)
		}
	}
	if at := c.Shape("no name at all"); at != -1 {
		t.Error(at)
	}
}

// maker draws icons of which few names are amiss.
type maker struct {
	*draw
	most int // one name of so many is nobody's
}

// name is one of the first so many.
func (m maker) name(count int) string {
	if count == 0 || m.below(m.most) == 0 {
		return fmt.Sprint("n", m.below(count+3))
	}
	return fmt.Sprint("n", m.below(count))
}

// named is the k-th name, or, now and then, another.
func (m maker) named(k int) string {
	if m.below(m.most) == 0 {
		return fmt.Sprint("n", m.below(k+2))
	}
	return fmt.Sprint("n", k)
}

func (m maker) vals(l []api.Val) {
	for k := range l {
		l[k] = api.Val{N: int64(m.below(100)), Pos: m.below(1000)}
		if m.below(2) == 0 {
			l[k] = api.Val{Name: m.name(3), Pos: l[k].Pos}
		}
	}
}

func (m maker) ref() api.Ref {
	if m.below(2) == 0 {
		return api.Ref{C: api.Color{A: uint8(m.below(256))}, Pos: m.below(1000)}
	}
	return api.Ref{Name: m.name(4), Pos: m.below(1000)}
}

func (m maker) items(shapes int) []api.Item {
	var l []api.Item
	for range m.below(4) {
		x := api.Item{Pos: m.below(1000)}
		if m.below(2) == 0 && shapes > 0 {
			x.Use, x.Name, x.Turn = true, m.name(shapes), m.below(4)
			m.vals(x.At[:])
			x.By = api.Val{N: api.Micro, Pos: x.Pos}
		} else {
			for range 1 + m.below(4) {
				s := api.Step{Kind: 1 + m.below(7), Pos: m.below(1000)}
				s.V = make([]api.Val, []int{2, 2, 4, 6, 2, 2, 0}[s.Kind-1])
				m.vals(s.V)
				x.Steps = append(x.Steps, s)
			}
		}
		l = append(l, x)
	}
	return l
}

func (m maker) icon() api.Src {
	s := api.Src{W: 9, H: 9}
	for k := range 3 {
		s.Consts = append(s.Consts, api.Const{Name: m.named(k), N: int64(m.below(1000)), Pos: m.below(1000)})
	}
	for k := range 4 {
		s.Colors = append(s.Colors, api.Named{Name: m.named(k), C: api.Color{R: uint8(m.below(256))}, Pos: m.below(1000)})
	}
	for k := range m.below(5) {
		s.Shapes = append(s.Shapes, api.Shape{Name: m.named(k), Pos: m.below(1000), Items: m.items(k)})
	}
	for range m.below(4) {
		c := api.SrcCmd{Kind: api.Fill, Rule: m.below(2), Pos: m.below(1000)}
		if m.below(2) == 0 {
			width := make([]api.Val, 1)
			m.vals(width)
			c.Kind, c.Rule, c.Width = api.Outline, 0, width[0]
		}
		c.Paint = api.SrcPaint{Kind: m.below(3), A: m.ref()}
		if c.Paint.Kind != api.Flat {
			c.Paint.B = m.ref()
			m.vals(c.Paint.V[:map[int]int{api.Linear: 4, api.Radial: 3}[c.Paint.Kind]])
		}
		c.Items = m.items(len(s.Shapes))
		s.Cmds = append(s.Cmds, c)
	}
	return s
}

// P12.1, P12.2: drawn icons, with few or many names amiss, against the chapter's words taken name by name.
func TestDrawnIcons(t *testing.T) {
	count := map[error]int{}
	for _, most := range []int{5, 30, 100, 1000} {
		m := maker{&draw{uint64(most)}, most}
		for range 2000 {
			count[checkIcon(t, m.icon())]++
		}
	}
	if count[nil] < 1000 || count[api.ErrTwice] < 1000 || count[api.ErrName] < 1000 {
		t.Error(count)
	}
}
