package names

import (
	"math"
	"slices"
	"testing"

	"glyphic/api"
	"glyphic/parse"
)

const head = "icon 9 9;"

// read is the written icon of a text.
func read(t *testing.T, s string) api.Src {
	t.Helper()
	out, err := parse.Src(s)
	if err != nil {
		t.Fatalf("%q: %v", s, err)
	}
	return out
}

// scope is the names of a text.
func scope(t *testing.T, s string) *Scope {
	t.Helper()
	c, err := New(read(t, s))
	if c == nil || err != nil {
		t.Fatalf("%q: %v, %v", s, c, err)
	}
	return c
}

// isFault tells whether err is want around pos; none at all, if want is nil.
func isFault(err error, pos int, want error) bool {
	if want == nil {
		return err == nil
	}
	at, ok := err.(*api.At)
	return ok && at.Pos == pos && at.Err == want
}

// checkTwice holds New and Check against what is told of a name twice.
func checkTwice(t *testing.T, s api.Src, pos int, want error) {
	t.Helper()
	c, err := New(s)
	if !isFault(err, pos, want) || (c == nil) != (want != nil) {
		t.Errorf("New(%+v): %v, %v; not %v at %d", s, c, err, want, pos)
	}
	if err := Check(s); want != nil && !isFault(err, pos, want) {
		t.Errorf("Check(%+v): %v; not %v at %d", s, err, want, pos)
	}
}

// P12.2: the chapter's example.
func TestZero(t *testing.T) {
	checkTwice(t, api.Src{}, 0, nil)
	if err := Check(api.Src{}); err != nil {
		t.Error(err)
	}
	if err := Check(read(t, head)); err != nil {
		t.Error(err)
	}
}

// lists are icons with these names, each as consts, as colors and as shapes; places stands for the place of each.
func lists(all []string, places []int) []api.Src {
	var consts, colors, shapes api.Src
	for k, name := range all {
		consts.Consts = append(consts.Consts, api.Const{Name: name, N: int64(k), Pos: places[k]})
		colors.Colors = append(colors.Colors, api.Named{Name: name, C: api.Color{B: uint8(k)}, Pos: places[k]})
		shapes.Shapes = append(shapes.Shapes, api.Shape{Name: name, Pos: places[k]})
	}
	return []api.Src{consts, colors, shapes}
}

// P12.1: of all lists of up to six out of three names, the first that one ahead has, among consts, colors and shapes.
func TestTwice(t *testing.T) {
	// As places go up, go down, or are none: the list's order counts alone.
	for _, places := range [][]int{{3, 14, 15, 92, 653, 5897}, {9, 7, 5, 4, 2, 0}, {-1, -8, math.MinInt, math.MaxInt, 0, -2}} {
		for size := range 7 {
			for n := range int(math.Pow(3, float64(size))) {
				var all []string
				for ; len(all) < size; n /= 3 {
					all = append(all, []string{"a", "b", "ab"}[n%3])
				}
				pos, want := 0, error(nil)
				for k, name := range slices.Backward(all) {
					if slices.Contains(all[:k], name) {
						pos, want = places[k], api.ErrTwice
					}
				}
				for _, s := range lists(all, places) {
					checkTwice(t, s, pos, want)
				}
			}
		}
	}
}

// P12.1: a name that is twice, first, in the middle and last, as it is written; its place is the later one's.
func TestTwiceWritten(t *testing.T) {
	for _, c := range []struct {
		s   string
		pos int
	}{
		{"const a=1;const a=1;", 16}, {"const a=1;const a=2;const b=1;", 16}, {"const b=1;const a=1;const a=1;const c=1;", 26}, {"const a=1;const b=1;const a=1;", 26}, {"const a=1;line 1 a{}const a=1;", 26},
		{"color a=#000000;color a=#000000;", 22}, {"color a=#000000;color b=#000000;color a=#010101;color c=#000000;", 38}, {"color b=#000000;color a=#000000;color a=#000000;", 38},
		{"shape a{}shape a{}", 15}, {"shape a{}shape b{}shape a{}", 24}, {"shape a{}shape b{}shape b{path Z;}shape c{}", 24},
		// Several.
		{"const a=1;const b=1;const b=1;const a=1;", 26}, {"const a=1;const a=1;const a=1;", 16}, {"shape a{}shape a{}const a=1;color a=#000000;color a=#000000;", 50}, {"shape a{}shape a{}color a=#000000;color a=#000000;const a=1;const a=1;", 66},
		// Ahead of names that are nobody's, in shapes and commands.
		{"shape a{use z at z z;}line z z{path M z z;}shape a{}", 49}, {"line z z{}color a=#000000;color a=#000000;", 32}, {"line z z{}const z=1;const z=1;", 26},
	} {
		checkTwice(t, read(t, head+c.s), len(head)+c.pos, api.ErrTwice)
	}
}

// P12.1: of consts, colors, shapes that are there twice, in all combinations, a const is told ahead of a color, that ahead of a shape.
func TestTwiceKinds(t *testing.T) {
	texts := []string{"shape a{}shape b{}shape b{}", "color a=#000000;color b=#000000;color b=#000000;", "const a=1;const b=1;const b=1;"}
	again := []int{24, 38, 26} // where the later one stands in each
	for which := range 8 {
		s, pos, want := head, 0, error(nil)
		for k, x := range texts {
			if which>>k&1 == 1 {
				pos, want = len(s)+again[k], api.ErrTwice
				s += x
			}
		}
		checkTwice(t, read(t, s), pos, want)
	}
}

// P12.1: a const, a color and a shape may have one name, each is found as its own.
func TestNamesOfTheirOwn(t *testing.T) {
	s := read(t, head+"const a=1.5;const b=2;color b=#010203;color a=#ff000080;shape c{}shape b{}shape a{}line a a{use a at a b;}line b b{use b at b a;}")
	checkTwice(t, s, 0, nil)
	if err := Check(s); err != nil {
		t.Error(err)
	}
	c, err := New(s)
	if err != nil {
		t.Fatal(err)
	}
	a, erra := c.Val(api.Val{Name: "a"})
	b, errb := c.Val(api.Val{Name: "b"})
	if a != 1500000 || b != 2000000 || erra != nil || errb != nil {
		t.Error(a, b, erra, errb)
	}
	x, erra := c.Ref(api.Ref{Name: "a"})
	y, errb := c.Ref(api.Ref{Name: "b"})
	if x != (api.Color{R: 255, A: 128}) || y != (api.Color{R: 1, G: 2, B: 3, A: 255}) || erra != nil || errb != nil {
		t.Error(x, y, erra, errb)
	}
	if c.Shape("a") != 2 || c.Shape("b") != 1 || c.Shape("c") != 0 {
		t.Error(c.Shape("a"), c.Shape("b"), c.Shape("c"))
	}
}

// somePlaces are places of words, and some where no word can be.
var somePlaces = []int{0, 1, 7, 59999, api.MaxBytes, -1, math.MinInt, math.MaxInt}

// P12.1: Val is N, or the const's number; ErrName around the place of a name that no const has.
func TestVal(t *testing.T) {
	names := scope(t, head+"const a=1.5;const b=-2;const zero=0;const last=999999.999999;color k=#ff0000;shape s{}color a=#000001;shape zero{}")
	none := scope(t, head)
	for _, pos := range somePlaces {
		for _, n := range []int64{0, 1, -1, 1500000, math.MinInt64, math.MaxInt64} {
			for _, c := range []*Scope{names, none} {
				if got, err := c.Val(api.Val{N: n, Pos: pos}); got != n || err != nil {
					t.Errorf("%d: %d, %v", n, got, err)
				}
			}
			for name, want := range map[string]int64{"a": 1500000, "b": -2000000, "zero": 0, "last": 999999999999} {
				if got, err := names.Val(api.Val{Name: name, N: n, Pos: pos}); got != want || err != nil {
					t.Errorf("%s: %d, %v", name, got, err)
				}
				if got, err := none.Val(api.Val{Name: name, N: n, Pos: pos}); got != 0 || !isFault(err, pos, api.ErrName) {
					t.Errorf("%s: %d, %v", name, got, err)
				}
			}
			for _, name := range []string{"k", "s", "c", "A", "aa", "zer", "zero1", " ", "a ", "\x00", "1", "icon"} {
				if got, err := names.Val(api.Val{Name: name, N: n, Pos: pos}); got != 0 || !isFault(err, pos, api.ErrName) {
					t.Errorf("%q: %d, %v", name, got, err)
				}
			}
		}
	}
}

// P12.1: Ref is the color, or the one that the name stands for; ErrName around the place of a name that no color has.
func TestRef(t *testing.T) {
	names := scope(t, head+"color a=#ff0000;color b=#01020304;color none=#00000000;const k=1;shape s{}const a=1;shape b{}color last=#ffffffff;")
	none := scope(t, head)
	for _, pos := range somePlaces {
		for _, x := range []api.Color{{}, {R: 1}, {G: 2}, {B: 3}, {A: 4}, {R: 255, G: 255, B: 255, A: 255}} {
			for _, c := range []*Scope{names, none} {
				if got, err := c.Ref(api.Ref{C: x, Pos: pos}); got != x || err != nil {
					t.Errorf("%v: %v, %v", x, got, err)
				}
			}
			for name, want := range map[string]api.Color{"a": {R: 255, A: 255}, "b": {R: 1, G: 2, B: 3, A: 4}, "none": {}, "last": {R: 255, G: 255, B: 255, A: 255}} {
				if got, err := names.Ref(api.Ref{Name: name, C: x, Pos: pos}); got != want || err != nil {
					t.Errorf("%s: %v, %v", name, got, err)
				}
				if got, err := none.Ref(api.Ref{Name: name, C: x, Pos: pos}); got != (api.Color{}) || !isFault(err, pos, api.ErrName) {
					t.Errorf("%s: %v, %v", name, got, err)
				}
			}
			for _, name := range []string{"k", "s", "c", "A", "aa", "non", "none1", " ", "a ", "\x00", "#ff0000", "icon"} {
				if got, err := names.Ref(api.Ref{Name: name, C: x, Pos: pos}); got != (api.Color{}) || !isFault(err, pos, api.ErrName) {
					t.Errorf("%q: %v, %v", name, got, err)
				}
			}
		}
	}
}

// P12.1: Shape is each shape's place among the shapes, -1 for a name that none has.
func TestShape(t *testing.T) {
	c := scope(t, head+"shape z{}const k=1;shape a{use z at 0 0;}color l=#000000;shape m{}line 1 l{use a at 0 0;}shape b{}")
	for name, want := range map[string]int{
		"z": 0, "a": 1, "m": 2, "b": 3,
		"": -1, "k": -1, "l": -1, "c": -1, "A": -1, "zz": -1, " ": -1, "z ": -1, "shape": -1, "0": -1,
	} {
		if got := c.Shape(name); got != want {
			t.Errorf("%q: %d", name, got)
		}
	}
	for _, name := range []string{"", "a", "s"} {
		if got := scope(t, head).Shape(name); got != -1 {
			t.Errorf("none: %q: %d", name, got)
		}
	}
}

// P12.1: as many of each kind as may be, and more than a parser takes: each is found.
func TestMany(t *testing.T) {
	for _, count := range []int{api.MaxShapes, 3000} {
		s := api.Src{}
		name := func(k int) string { return string([]byte{byte('a' + k/26/26), byte('a' + k/26%26), byte('a' + k%26)}) }
		for k := range count {
			s.Consts = append(s.Consts, api.Const{Name: name(k), N: int64(-k), Pos: k})
			s.Colors = append(s.Colors, api.Named{Name: name(k), C: api.Color{R: uint8(k), G: uint8(k >> 8)}, Pos: k})
			s.Shapes = append(s.Shapes, api.Shape{Name: name(k), Pos: k})
		}
		c, err := New(s)
		if err != nil || Check(s) != nil {
			t.Fatal(err, Check(s))
		}
		for k := range count {
			n, errn := c.Val(api.Val{Name: name(k), Pos: k})
			x, errx := c.Ref(api.Ref{Name: name(k), Pos: k})
			if n != int64(-k) || errn != nil || x != (api.Color{R: uint8(k), G: uint8(k >> 8)}) || errx != nil || c.Shape(name(k)) != k {
				t.Errorf("%s: %d, %v, %v, %v, %d", name(k), n, errn, x, errx, c.Shape(name(k)))
			}
		}
		if c.Shape(name(count)) != -1 {
			t.Error("one more")
		}
		s.Consts = append(s.Consts, api.Const{Name: name(count - 1), Pos: -5})
		checkTwice(t, s, -5, api.ErrTwice)
	}
}
