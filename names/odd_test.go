package names

import (
	"fmt"
	"math"
	"reflect"
	"strings"
	"testing"
	"unsafe"

	"glyphic/api"
)

// odd draws icons that no parser made.
type odd struct {
	*draw
	names []string
}

func (o odd) int() int {
	if o.below(2) == 0 {
		return o.below(9) - 1
	}
	return []int{math.MinInt, math.MinInt + 1, -1, -1000000, 0, 4, 8, 255, 1000000, math.MaxInt}[o.below(10)]
}

// fill sets all that is in v.
func (o odd) fill(v reflect.Value) {
	switch v.Kind() {
	case reflect.Struct:
		for k := range v.NumField() {
			o.fill(v.Field(k))
		}
	case reflect.Array:
		for k := range v.Len() {
			o.fill(v.Index(k))
		}
	case reflect.Slice:
		n := o.below(5) - 1
		if n >= 0 {
			v.Set(reflect.MakeSlice(v.Type(), n, n+o.below(2)))
		}
		for k := range v.Len() {
			o.fill(v.Index(k))
		}
	case reflect.String:
		v.SetString(o.names[o.below(len(o.names))])
	case reflect.Bool:
		v.SetBool(o.below(2) == 0)
	case reflect.Uint8:
		v.SetUint(uint64(o.below(256)))
	default:
		v.SetInt(int64(o.int()))
	}
}

// P0.1, P0.4, P12.1, P12.2: icons that no parser made: no panic, nothing changed, and what the chapter's words say of them.
func TestNoParserMade(t *testing.T) {
	count := map[error]int{}
	for _, names := range [][]string{
		{"", "", "a", "A", "icon", "1", "a;\n}", "\x00\xff", "é", strings.Repeat("long", 99)},
		{"", "", "", "", "", "", "", "", "a", "b", "c", "d", "e", "f"},
		{"a"}, {""},
	} {
		o := odd{&draw{1}, names}
		for range 500 {
			var s api.Src
			o.fill(reflect.ValueOf(&s).Elem())
			count[checkIcon(t, s)]++
		}
	}
	if count[nil] < 100 || count[api.ErrTwice] < 100 || count[api.ErrName] < 100 {
		t.Error(count)
	}
}

// P0.1, P12.2: kinds out of their ranges and lists that lack something: names count there as elsewhere, in the same order.
func TestOutOfRange(t *testing.T) {
	good, bad := api.Val{Name: "a", Pos: 5}, api.Val{Name: "z", Pos: 7}
	base := api.Src{Consts: []api.Const{{Name: "a"}}, Colors: []api.Named{{Name: "k"}}, Shapes: []api.Shape{{Name: "s"}}}
	hold := func(x api.Item, want error) {
		t.Helper()
		s := base
		s.Shapes = []api.Shape{{Name: "s"}, {Name: "t", Items: []api.Item{x}}}
		if err := Check(s); !isFault(err, 7, want) {
			t.Errorf("%+v: %v", x, err)
		}
		s.Shapes = base.Shapes
		s.Cmds = []api.SrcCmd{{Items: []api.Item{x}}}
		if err := Check(s); !isFault(err, 7, want) {
			t.Errorf("%+v: %v", x, err)
		}
	}
	for _, kind := range []int{math.MinInt, -256, -1, 0, 1, 2, 3, 4, 7, 8, 9, 255, 256, 1 << 32, math.MaxInt} {
		for count := range 9 {
			vals := append(make([]api.Val, count), good)
			hold(api.Item{Steps: []api.Step{{Kind: kind}, {Kind: kind, V: vals}}}, nil)
			hold(api.Item{Steps: []api.Step{{Kind: kind, V: append(vals, bad, good)}}}, api.ErrName)
		}
		hold(api.Item{Use: true, Name: "s", Turn: kind, Pos: 1}, nil)
		hold(api.Item{Use: true, Name: "s", Turn: kind, Pos: 1, By: bad}, api.ErrName)
		for other := -1; other < 4; other++ {
			c := api.SrcCmd{Kind: kind, Rule: other, Paint: api.SrcPaint{Kind: other}, Width: good}
			s := base
			s.Cmds = []api.SrcCmd{c}
			checkIcon(t, s)
			for k := range c.Paint.V {
				s.Cmds = []api.SrcCmd{c}
				s.Cmds[0].Paint.V[k] = bad
				checkIcon(t, s)
			}
			s.Cmds[0].Paint.B = api.Ref{Name: "a", Pos: 3}
			checkIcon(t, s)
			s.Cmds[0].Width = bad
			checkIcon(t, s)
		}
	}
}

// P12.2: what an item is not isn't asked of: a path's shape, At, By; a use's steps.
func TestOtherFields(t *testing.T) {
	bad := api.Val{Name: "z", Pos: 7}
	path := api.Item{Name: "z", At: [2]api.Val{bad, bad}, By: bad, Steps: []api.Step{{Kind: api.Move, V: make([]api.Val, 2)}}}
	use := api.Item{Use: true, Name: "s", Steps: []api.Step{{Kind: api.Move, V: []api.Val{bad, bad}}}}
	s := api.Src{Shapes: []api.Shape{{Name: "s"}, {Name: "t", Items: []api.Item{path, use, path}}}, Cmds: []api.SrcCmd{{Items: []api.Item{use, path, use}}}}
	if err := Check(s); err != nil {
		t.Error(err)
	}
}

// P12.1: names of nothing at all: twice as others are; a val, a ref without a name is still what it is.
func TestNoName(t *testing.T) {
	for _, s := range lists([]string{"", "a", ""}, []int{4, 5, 6}) {
		checkTwice(t, s, 6, api.ErrTwice)
	}
	c, err := New(api.Src{Consts: []api.Const{{N: 9}}, Colors: []api.Named{{C: api.Color{R: 9}}}, Shapes: []api.Shape{{Name: "s"}, {}}})
	if err != nil {
		t.Fatal(err)
	}
	n, errn := c.Val(api.Val{N: 5})
	x, errx := c.Ref(api.Ref{C: api.Color{G: 5}})
	if n != 5 || errn != nil || x != (api.Color{G: 5}) || errx != nil || c.Shape("") != 1 {
		t.Error(n, errn, x, errx, c.Shape(""))
	}
}

// roomy is l with room behind its length, and more there.
func roomy[T any](l []T, more ...T) []T {
	return append(append(make([]T, 0, len(l)+len(more)), l...), more...)[:len(l)]
}

// P0.4: nil and the empty list are the same; what lies behind a list's length is neither read nor written.
func TestHandedIn(t *testing.T) {
	empty := api.Src{
		Consts: []api.Const{}, Colors: []api.Named{},
		Shapes: []api.Shape{{Name: "s", Items: []api.Item{}}},
		Cmds:   []api.SrcCmd{{Items: []api.Item{{Steps: []api.Step{}}, {Steps: []api.Step{{V: []api.Val{}}}}, {}}}},
	}
	if checkIcon(t, empty) != nil || checkIcon(t, api.Src{Consts: []api.Const{}, Colors: []api.Named{}, Shapes: []api.Shape{}, Cmds: []api.SrcCmd{}}) != nil {
		t.Error("empty lists")
	}
	bad := api.Val{Name: "z", Pos: 7}
	use := api.Item{Use: true, Name: "z"}
	step := api.Step{Kind: api.Move, V: roomy([]api.Val{{Name: "a"}}, bad, bad)}
	item := api.Item{Steps: roomy([]api.Step{step}, api.Step{V: []api.Val{bad}})}
	items := roomy([]api.Item{item}, use, use)
	s := api.Src{
		Consts: roomy([]api.Const{{Name: "a"}}, api.Const{Name: "a"}, api.Const{Name: "z"}),
		Colors: roomy([]api.Named{{Name: "k"}}, api.Named{Name: "k"}),
		Shapes: roomy([]api.Shape{{Name: "s", Items: items}}, api.Shape{Name: "s"}, api.Shape{Name: "z"}),
		Cmds:   roomy([]api.SrcCmd{{Paint: api.SrcPaint{A: api.Ref{Name: "k"}}, Items: items}}, api.SrcCmd{Width: bad}),
	}
	behind := func() string {
		return fmt.Sprintf("%#v", []any{s.Consts[:3], s.Colors[:2], s.Shapes[:3], s.Cmds[:2], items[:3], item.Steps[:2], step.V[:3]})
	}
	was := behind()
	if checkIcon(t, s) != nil {
		t.Error("what lies behind is read")
	}
	if is := behind(); is != was {
		t.Errorf("%s\nwas\n%s", is, was)
	}
}

// P0.4: what is handed in isn't kept: what is written into it later isn't found, and no name is a piece of it.
func TestKept(t *testing.T) {
	text := strings.Clone("first second third")
	s := api.Src{
		Consts: []api.Const{{Name: text[:5], N: 1}, {Name: text[6:12], N: 2}},
		Colors: []api.Named{{Name: text[:5], C: api.Color{R: 1}}, {Name: text[13:], C: api.Color{R: 2}}},
		Shapes: []api.Shape{{Name: text[6:12]}, {Name: text[13:]}},
	}
	c, err := New(s)
	if err != nil {
		t.Fatal(err)
	}
	s.Consts[0], s.Consts[1].N = api.Const{Name: "new", N: 3}, 4
	s.Colors[0], s.Colors[1].C = api.Named{Name: "new"}, api.Color{R: 9}
	s.Shapes[0], s.Shapes[1] = s.Shapes[1], api.Shape{Name: "new"}
	checkFound(t, c, api.Src{
		Consts: []api.Const{{Name: "first", N: 1}, {Name: "second", N: 2}},
		Colors: []api.Named{{Name: "first", C: api.Color{R: 1}}, {Name: "third", C: api.Color{R: 2}}},
		Shapes: []api.Shape{{Name: "second"}, {Name: "third"}},
	})
	_, errn := c.Val(api.Val{Name: "new"})
	_, errx := c.Ref(api.Ref{Name: "new"})
	if errn == nil || errx == nil || c.Shape("new") != -1 {
		t.Error("kept", errn, errx, c.Shape("new"))
	}
	from := uintptr(unsafe.Pointer(unsafe.StringData(text)))
	var names []string
	for _, m := range []any{c.consts, c.colors, c.shapes} {
		for _, name := range reflect.ValueOf(m).MapKeys() {
			names = append(names, name.String())
		}
	}
	if len(names) != 6 {
		t.Error(names)
	}
	for _, name := range names {
		if at := uintptr(unsafe.Pointer(unsafe.StringData(name))); at >= from && at < from+uintptr(len(text)) {
			t.Errorf("%q is a piece of what was handed in", name)
		}
	}
}

// P0.2, P0.5: calls that answer errors change nothing that a later one tells; several icons' names, and the same asked at once, don't meet.
func TestAgain(t *testing.T) {
	s, other := read(t, decl+"shape u{use z at z z;}"), read(t, head+"const z=5;shape z{}shape a{}color a=#ffffff;")
	c, err := New(s)
	o, erro := New(other)
	if err != nil || erro != nil {
		t.Fatal(err, erro)
	}
	twice := read(t, decl+"const z=1;shape z{}const a=7;")
	done := make(chan bool)
	for range 8 {
		go func() {
			for range 50 {
				_, wrong := c.Val(api.Val{Name: "z", Pos: 3})
				n, err := c.Val(api.Val{Name: "a"})
				m, erro := o.Val(api.Val{Name: "z"})
				_, wrongref := c.Ref(api.Ref{Name: "z", Pos: 4})
				_, wrongtwice := New(twice)
				if !isFault(wrong, 3, api.ErrName) || !isFault(wrongref, 4, api.ErrName) || !isFault(wrongtwice, len(decl)+25, api.ErrTwice) || !isFault(Check(s), len(decl)+8, api.ErrName) || Check(other) != nil {
					t.Error(wrong, wrongref, wrongtwice, Check(s), Check(other))
				}
				if n != 1000000 || err != nil || m != 5000000 || erro != nil || c.Shape("z") != -1 || c.Shape("u") != 2 || o.Shape("z") != 0 || o.Shape("a") != 1 {
					t.Error(n, err, m, erro, c.Shape("z"), c.Shape("u"), o.Shape("z"), o.Shape("a"))
				}
			}
			done <- true
		}()
	}
	for range 8 {
		<-done
	}
}
