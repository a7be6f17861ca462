package print

import (
	"fmt"
	"math"
	"reflect"
	"strings"
	"testing"

	"glyphic/api"
	"glyphic/parse"
)

// odd draws icons that no parser made.
type odd struct{ *draw }

func (o odd) int() int {
	if o.below(2) == 0 {
		return o.below(9) - 1
	}
	return []int{math.MinInt, math.MinInt + 1, -1, -1000000, 0, 4, 8, 255, 1000000, math.MaxInt}[o.below(10)]
}

// fill sets all that is in v.
func (o odd) fill(v reflect.Value) {
	switch v.Kind() {
	case reflect.Struct:
		for k := range v.NumField() {
			o.fill(v.Field(k))
		}
	case reflect.Array:
		for k := range v.Len() {
			o.fill(v.Index(k))
		}
	case reflect.Slice:
		n := o.below(9) - 2
		if n >= 0 {
			v.Set(reflect.MakeSlice(v.Type(), n, n+o.below(2)))
		}
		for k := range v.Len() {
			o.fill(v.Index(k))
		}
	case reflect.String:
		v.SetString(o.of("", "", "a", "A", "icon", "1", "a;\n}", "\x00\xff", "é", strings.Repeat("long", 99)))
	case reflect.Bool:
		v.SetBool(o.below(2) == 0)
	case reflect.Uint8:
		v.SetUint(uint64(o.below(256)))
	default:
		v.SetInt(int64(o.int()))
	}
}

func (o odd) icon() api.Src {
	var s api.Src
	o.fill(reflect.ValueOf(&s).Elem())
	return s
}

// P0.1, P0.4, P0.5, P11.1: icons that no parser made: no panic, nothing changed, the same text again; Same is whether the texts are.
func TestNoParserMade(t *testing.T) {
	o, last := odd{&draw{1}}, api.Src{}
	for range 400 {
		s := o.icon()
		was := fmt.Sprintf("%#v", s)
		text := Src(s)
		if again := Src(s); again != text {
			t.Errorf("%s\nand then\n%s", text, again)
		}
		if !Same(s, s) || Same(s, last) != (text == Src(last)) || Same(last, s) != (text == Src(last)) {
			t.Errorf("%s\nand\n%s: %t", text, Src(last), Same(s, last))
		}
		if is := fmt.Sprintf("%#v", s); is != was {
			t.Errorf("%s\nwas\n%s", is, was)
		}
		last = s
	}
}

// checkNone: s is written, and what is written is no icon.
func checkNone(t *testing.T, s api.Src) {
	t.Helper()
	text := Src(s)
	if !Same(s, s) {
		t.Errorf("%s: not the same", text)
	}
	if _, err := parse.Src(text); err == nil {
		t.Errorf("%+v is written as another:\n%s", s, text)
	}
}

// P0.1: kinds, rules, turns out of their ranges, one at a time: no panic, and nothing else is written for them.
func TestOutOfRange(t *testing.T) {
	numbers := []int{math.MinInt, math.MinInt + 1, -256, -8, -7, -3, -2, -1, 8, 9, 255, 256, 257, 1 << 32, 1<<32 + 1, math.MaxInt - 1, math.MaxInt}
	flat := api.SrcCmd{Kind: api.Outline, Paint: api.SrcPaint{A: api.Ref{Name: "a"}}}
	in := func(x api.Item) api.Src {
		c := flat
		c.Items = []api.Item{x}
		return api.Src{W: 1, H: 1, Cmds: []api.SrcCmd{c}}
	}
	for _, n := range append(numbers, 0, 3, 4, 5, 6, 7) {
		c := flat
		c.Kind = n
		checkNone(t, api.Src{W: 1, H: 1, Cmds: []api.SrcCmd{c}})
	}
	for _, n := range append(numbers, 2, 3, 4, 5, 6, 7) {
		c := flat
		c.Kind, c.Rule = api.Fill, n
		checkNone(t, api.Src{W: 1, H: 1, Cmds: []api.SrcCmd{c}})
	}
	for _, n := range append(numbers, 3, 4, 5, 6, 7) {
		c := flat
		c.Paint.Kind = n
		checkNone(t, api.Src{W: 1, H: 1, Cmds: []api.SrcCmd{c}})
	}
	for _, n := range append(numbers, 0) {
		for vals := range 8 {
			step := api.Step{Kind: n, V: make([]api.Val, vals)}
			checkNone(t, in(api.Item{Steps: []api.Step{step}}))
			checkNone(t, in(api.Item{Steps: []api.Step{{Kind: api.Close}, step, {Kind: api.Close}}}))
		}
	}
	for _, n := range append(numbers, 4, 5, 6, 7) {
		checkNone(t, in(api.Item{Use: true, Name: "a", Turn: n}))
	}
}

// P0.1: lists that lack something, or have more than may be.
func TestLists(t *testing.T) {
	for kind := -1; kind < 9; kind++ {
		for vals := range 9 {
			Src(api.Src{Shapes: []api.Shape{{Items: []api.Item{{Steps: []api.Step{{Kind: kind, V: make([]api.Val, vals)}}}}}}})
		}
	}
	many := api.Src{
		Consts: make([]api.Const, 1000), Colors: make([]api.Named, 1000), Shapes: make([]api.Shape, 1000), Cmds: make([]api.SrcCmd, 1000),
	}
	many.Shapes[7].Items = make([]api.Item, 1000)
	many.Cmds[7].Items = []api.Item{{Steps: make([]api.Step, 20000)}}
	few := many
	few.Cmds = many.Cmds[:999]
	if !Same(many, many) || Same(many, few) {
		t.Error("more than may be")
	}
	Src(api.Src{})
	Src(api.Src{W: -1, H: math.MinInt, Scale: math.MaxInt, Cmds: []api.SrcCmd{{}}, Shapes: []api.Shape{{Items: []api.Item{{}, {Use: true}}}}})
}

// P0.4: nil and the empty list are the same; what is handed in isn't changed, nor what lies behind a list's length.
func TestHandedIn(t *testing.T) {
	s, want := read(t, full), read(t, full)
	steps := s.Shapes[0].Items[0].Steps
	roomy := append(make([]api.Step, 0, len(steps)+3), steps...)
	beyond := roomy[:cap(roomy)]
	for k := len(steps); k < len(beyond); k++ {
		beyond[k] = api.Step{Kind: 99}
	}
	s.Shapes[0].Items[0].Steps = roomy
	if got := Src(s); got != full {
		t.Error(got)
	}
	if !Same(s, want) || !reflect.DeepEqual(s, want) {
		t.Errorf("%+v, not %+v", s, want)
	}
	for _, x := range beyond[len(steps):] {
		if !reflect.DeepEqual(x, api.Step{Kind: 99}) {
			t.Errorf("behind the length: %+v", x)
		}
	}
	empty := api.Src{Consts: []api.Const{}, Colors: []api.Named{}, Shapes: []api.Shape{}, Cmds: []api.SrcCmd{}}
	if Src(empty) != Src(api.Src{}) || !Same(empty, api.Src{}) {
		t.Error("empty lists")
	}
}

// P0.5: the same icon comes to the same text, whatever was written ahead of it, and in whatever is written at once.
func TestAgain(t *testing.T) {
	s, done := read(t, full), make(chan string)
	for k := range 8 {
		go func() {
			o := odd{&draw{uint64(k)}}
			for range 20 {
				Same(o.icon(), s)
			}
			done <- Src(s)
		}()
	}
	for range 8 {
		if got := <-done; got != full {
			t.Errorf("%s", got)
		}
	}
}
