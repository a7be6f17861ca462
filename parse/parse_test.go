package parse

import (
	"errors"
	"fmt"
	"reflect"
	"strings"
	"testing"

	"glyphic/api"
)

// head is the least that each text begins with, of 9 bytes: what stands behind it has its first byte at 9.
const head = "icon 1 1;"

// told is all that s says, nil and empty lists alike.
func told(s api.Src) string { return fmt.Sprintf("%+v", s) }

// checkSrc holds what Src answers against a written icon.
func checkSrc(t *testing.T, s string, want api.Src) {
	t.Helper()
	if got, err := Src(s); err != nil || told(got) != told(want) {
		t.Errorf("Src(%.200q):\n%s, %v, not\n%s", s, told(got), err, told(want))
	}
}

// checkTaken has Src take s.
func checkTaken(t *testing.T, s string) api.Src {
	t.Helper()
	got, err := Src(s)
	if err != nil {
		t.Errorf("Src(%.200q): %v", s, err)
	}
	return got
}

// checkFault holds what Src answers against an error around a place, with nothing beside it.
func checkFault(t *testing.T, s string, pos int, want error) {
	t.Helper()
	got, err := Src(s)
	var at *api.At
	if !errors.As(err, &at) || err != error(at) || at.Pos != pos || at.Err != want {
		t.Errorf("Src(%.200q): %v, not %d: %v", s, err, pos, want)
	}
	if !reflect.ValueOf(got).IsZero() {
		t.Errorf("Src(%.200q): beside the error: %s", s, told(got))
	}
}

// behind is what a text that goes on behind head comes to.
func behind(s api.Src) api.Src {
	s.W, s.H = 1, 1
	return s
}

func num(n int64, pos int) api.Val { return api.Val{N: n, Pos: pos} }

func named(name string, pos int) api.Val { return api.Val{Name: name, Pos: pos} }

func ref(name string, pos int) api.Ref { return api.Ref{Name: name, Pos: pos} }

func rgba(r, g, b, a uint8) api.Color { return api.Color{R: r, G: g, B: b, A: a} }

// P10.1: the document's example.
func TestExample(t *testing.T) {
	checkSrc(t, "icon 1 1;", api.Src{W: 1, H: 1})
}

// P10.1: W, H, and Scale written or not; each a whole number, in its range or not.
func TestIcon(t *testing.T) {
	checkSrc(t, "icon 24 16;", api.Src{W: 24, H: 16})
	checkSrc(t, "icon 24 16 scale 3;", api.Src{W: 24, H: 16, Scale: 3})
	checkSrc(t, "icon 1 2 scale 0;", api.Src{W: 1, H: 2})
	checkSrc(t, "icon 0 0 scale 7;", api.Src{Scale: 7})
	checkSrc(t, "icon 999999 4097 scale 999999;", api.Src{W: 999999, H: 4097, Scale: 999999})
	checkSrc(t, "icon 007 000010 scale 02;", api.Src{W: 7, H: 10, Scale: 2})
	for _, wrong := range []string{"-1", "-0", "1.0", "1.5", "0.000001", "-2.5", "a", "#112233", "M", ";", "=", "{", "}", "scale", "icon"} {
		checkFault(t, "icon "+wrong+" 1;", 5, api.ErrText)
		checkFault(t, "icon 1 "+wrong+";", 7, api.ErrText)
		checkFault(t, "icon 1 1 scale "+wrong+";", 15, api.ErrText)
	}
	checkFault(t, "icon 1 1 1;", 9, api.ErrText)
	checkFault(t, "icon 1 1 scale 1 1;", 17, api.ErrText)
	checkFault(t, "icon 1 1 scale 1 scale 1;", 17, api.ErrText)
	checkFault(t, "scale 1 icon 1 1;", 0, api.ErrText)
}

// P10.1: consts, by their names, with numbers in millionths.
func TestConsts(t *testing.T) {
	checkSrc(t, head+"const a = 1;", behind(api.Src{Consts: []api.Const{{Name: "a", N: 1000000, Pos: 15}}}))
	checkSrc(t, head+"const a=-1.5;const b_2 = 0.000001;const a = 999999.999999;", behind(api.Src{Consts: []api.Const{
		{Name: "a", N: -1500000, Pos: 15}, {Name: "b_2", N: 1, Pos: 28}, {Name: "a", N: 999999999999, Pos: 49}}}))
	checkSrc(t, head+"const m = 007.10;", behind(api.Src{Consts: []api.Const{{Name: "m", N: 7100000, Pos: 15}}}))
	for _, wrong := range []string{"b", "#112233", "M", ";", "=", "at"} {
		checkFault(t, head+"const a = "+wrong+";", 19, api.ErrText)
	}
	for _, wrong := range []string{"1", "#112233", "M", ";", "=", "at", "icon", "turn"} {
		checkFault(t, head+"const "+wrong+" = 1;", 15, api.ErrText)
		checkFault(t, head+"color "+wrong+" = #112233;", 15, api.ErrText)
		checkFault(t, head+"shape "+wrong+" {}", 15, api.ErrText)
	}
}

// P10.1: colors, by their names, with alpha and without.
func TestColors(t *testing.T) {
	checkSrc(t, head+"color red = #ff0000;", behind(api.Src{Colors: []api.Named{{Name: "red", C: rgba(255, 0, 0, 255), Pos: 15}}}))
	checkSrc(t, head+"color a=#01020304;color b=#a0b0c0;color a=#00000000;", behind(api.Src{Colors: []api.Named{
		{Name: "a", C: rgba(1, 2, 3, 4), Pos: 15}, {Name: "b", C: rgba(0xa0, 0xb0, 0xc0, 255), Pos: 33}, {Name: "a", Pos: 49}}}))
	for _, wrong := range []string{"b", "1", "M", ";", "=", "at"} {
		checkFault(t, head+"color a = "+wrong+";", 19, api.ErrText)
	}
}

// P10.1: shapes, by their names, with items or none.
func TestShapes(t *testing.T) {
	z := []api.Step{{Kind: api.Close, Pos: 23}}
	checkSrc(t, head+"shape a {}", behind(api.Src{Shapes: []api.Shape{{Name: "a", Pos: 15}}}))
	checkSrc(t, head+"shape a{path Z;}", behind(api.Src{Shapes: []api.Shape{{Name: "a", Pos: 15, Items: []api.Item{
		{Pos: 17, Steps: []api.Step{{Kind: api.Close, Pos: 22}}}}}}}))
	checkSrc(t, head+"shape a {path Z;path Z;}shape b{}shape a{path Z;}", behind(api.Src{Shapes: []api.Shape{
		{Name: "a", Pos: 15, Items: []api.Item{{Pos: 18, Steps: z}, {Pos: 25, Steps: []api.Step{{Kind: api.Close, Pos: 30}}}}},
		{Name: "b", Pos: 39},
		{Name: "a", Pos: 48, Items: []api.Item{{Pos: 50, Steps: []api.Step{{Kind: api.Close, Pos: 55}}}}}}}))
}

// P10.1: a path's steps: each letter for its kind, with as many vals as it has.
func TestSteps(t *testing.T) {
	for _, x := range []struct {
		letter      string
		kind, count int
	}{
		{"M", api.Move, 2}, {"L", api.LineTo, 2}, {"Q", api.QuadTo, 4}, {"C", api.CubeTo, 6}, {"A", api.ArcX, 2}, {"B", api.ArcY, 2}, {"Z", api.Close, 0},
	} {
		step := api.Step{Kind: x.kind, Pos: 24}
		text := head + "shape a { path " + x.letter
		for k := range x.count {
			// Fewer than there have to be: the step's end can't be there yet.
			checkFault(t, text+";}", len(text), api.ErrText)
			checkFault(t, text+" Z;}", len(text)+1, api.ErrText)
			if k%2 == 0 {
				step.V = append(step.V, num(int64(k+1)*1000000, len(text)+1))
				text += fmt.Sprint(" ", k+1)
			} else {
				step.V = append(step.V, named(fmt.Sprint("v", k), len(text)+1))
				text += fmt.Sprint(" v", k)
			}
		}
		checkSrc(t, text+";}", behind(api.Src{Shapes: []api.Shape{{Name: "a", Pos: 15, Items: []api.Item{{Pos: 19, Steps: []api.Step{step}}}}}}))
		// And one more than there are.
		checkFault(t, text+" 1;}", len(text)+1, api.ErrText)
		checkFault(t, text+" a;}", len(text)+1, api.ErrText)
		again := api.Step{Kind: api.Close, Pos: len(text) + 1}
		checkSrc(t, text+" Z;}", behind(api.Src{Shapes: []api.Shape{{Name: "a", Pos: 15, Items: []api.Item{{Pos: 19, Steps: []api.Step{step, again}}}}}}))
	}
	// In any order: which steps are a path is not asked here.
	got := checkTaken(t, head+"line 1 a{path Z A 1 2 Z M-1-2 B a b M a-3;}")
	if kinds := fmt.Sprint(got.Cmds[0].Items[0].Steps); kinds != "[{7 23 []} {5 25 [{ 1000000 27} { 2000000 29}]} {7 31 []} {1 33 [{ -1000000 34} { -2000000 36}]} {6 39 [{a 0 41} {b 0 43}]} {1 45 [{a 0 47} { -3000000 48}]}]" {
		t.Error(kinds)
	}
	checkFault(t, head+"line 1 a{path;}", 22, api.ErrText)
	checkFault(t, head+"line 1 a{path 1 2;}", 23, api.ErrText)
	checkFault(t, head+"line 1 a{path m 1 2;}", 23, api.ErrText)
}

// P10.1: a use with by and turn, each written or not.
func TestUses(t *testing.T) {
	text := head + "shape a{use b at 1 c"
	use := api.Item{Use: true, Pos: 17, Name: "b", At: [2]api.Val{num(1000000, 26), named("c", 28)}, By: num(1000000, 17)}
	in := func(x api.Item) api.Src {
		return behind(api.Src{Shapes: []api.Shape{{Name: "a", Pos: 15, Items: []api.Item{x}}}})
	}
	checkSrc(t, text+";}", in(use))
	for _, x := range []struct {
		text string
		by   api.Val
		turn int
	}{
		{" by 2", num(2000000, 33), 0}, {" by 1", num(1000000, 33), 0}, {" by-0.5", num(-500000, 32), 0}, {" by 0", num(0, 33), 0}, {" by d", named("d", 33), 0},
		{" turn 0", use.By, 0}, {" turn 1", use.By, 1}, {" turn 2", use.By, 2}, {" turn 3", use.By, 3}, {" turn 003", use.By, 3},
		{" by 2 turn 0", num(2000000, 33), 0}, {" by e turn 3", named("e", 33), 3},
	} {
		with := use
		with.By, with.Turn = x.by, x.turn
		checkSrc(t, text+x.text+";}", in(with))
	}
	checkFault(t, text+" turn 1 by 2;}", 37, api.ErrText)
	checkFault(t, text+" by 1 by 2;}", 35, api.ErrText)
	checkFault(t, text+" turn 1 turn 2;}", 37, api.ErrText)
	checkFault(t, text+" 1;}", 30, api.ErrText)
	checkFault(t, text+" by 1 1;}", 35, api.ErrText)
	checkFault(t, text+" turn 1 1;}", 37, api.ErrText)
	checkFault(t, text+" by #112233;}", 33, api.ErrText)
}

// P10.1: a fill with each rule, a line, each with each paint, with names and with what they stand for.
func TestCommands(t *testing.T) {
	for _, c := range []struct {
		text string
		cmd  api.SrcCmd
	}{
		{"fill evenodd", api.SrcCmd{Kind: api.Fill, Rule: api.EvenOdd}}, {"fill nonzero", api.SrcCmd{Kind: api.Fill, Rule: api.NonZero}},
		{"line -1.25", api.SrcCmd{Kind: api.Outline, Width: num(-1250000, 14)}}, {"line width", api.SrcCmd{Kind: api.Outline, Width: named("width", 14)}},
	} {
		at := len(head) + len(c.text) + 1
		for _, p := range []struct {
			text  string
			paint api.SrcPaint
		}{
			{"red", api.SrcPaint{Kind: api.Flat, A: ref("red", at)}},
			{"#01020304", api.SrcPaint{Kind: api.Flat, A: api.Ref{C: rgba(1, 2, 3, 4), Pos: at}}},
			{"linear a #112233 1 b -2 c", api.SrcPaint{Kind: api.Linear, A: ref("a", at+7), B: api.Ref{C: rgba(0x11, 0x22, 0x33, 255), Pos: at + 9}, V: [4]api.Val{num(1000000, at+17), named("b", at+19), num(-2000000, at+21), named("c", at+24)}}},
			{"radial #11223300 b c 0 0.5", api.SrcPaint{Kind: api.Radial, A: api.Ref{C: rgba(0x11, 0x22, 0x33, 0), Pos: at + 7}, B: ref("b", at+17), V: [4]api.Val{named("c", at+19), num(0, at+21), num(500000, at+23)}}},
		} {
			cmd, text := c.cmd, head+c.text+" "+p.text
			cmd.Pos, cmd.Paint = len(head), p.paint
			checkSrc(t, text+"{}", behind(api.Src{Cmds: []api.SrcCmd{cmd}}))
			cmd.Items = []api.Item{{Pos: len(text) + 1, Steps: []api.Step{{Kind: api.Close, Pos: len(text) + 6}}}}
			checkSrc(t, text+"{path Z;}", behind(api.Src{Cmds: []api.SrcCmd{cmd}}))
			second := cmd
			second.Pos, second.Kind, second.Rule, second.Width, second.Paint, second.Items = len(text)+9, api.Fill, api.EvenOdd, api.Val{}, api.SrcPaint{A: ref("k", len(text)+22)}, nil
			checkSrc(t, text+"{path Z;}fill evenodd k{}", behind(api.Src{Cmds: []api.SrcCmd{cmd, second}}))
		}
	}
}

// P10.1: what is written stands in lists in its order, each kind for itself, however it is mixed.
func TestMixed(t *testing.T) {
	s := head + "line 1 a{}const b=1;shape c{}color d=#000000;fill nonzero e{}shape f{}const g=2;color h=#ffffff;line i j{}"
	at := func(what string) int { return strings.Index(s, what) }
	checkSrc(t, s, behind(api.Src{
		Consts: []api.Const{{Name: "b", N: 1000000, Pos: at("b=")}, {Name: "g", N: 2000000, Pos: at("g=")}},
		Colors: []api.Named{{Name: "d", C: rgba(0, 0, 0, 255), Pos: at("d=")}, {Name: "h", C: rgba(255, 255, 255, 255), Pos: at("h=")}},
		Shapes: []api.Shape{{Name: "c", Pos: at("c{")}, {Name: "f", Pos: at("f{")}},
		Cmds: []api.SrcCmd{
			{Kind: api.Outline, Pos: 9, Width: num(1000000, 14), Paint: api.SrcPaint{A: ref("a", 16)}},
			{Kind: api.Fill, Rule: api.NonZero, Pos: at("fill"), Paint: api.SrcPaint{A: ref("e", at("e{"))}},
			{Kind: api.Outline, Pos: at("line i"), Width: named("i", at("i j")), Paint: api.SrcPaint{A: ref("j", at("j{"))}},
		}}))
	// Items of both kinds in one list, the same one again.
	got := checkTaken(t, head+"fill evenodd a{path Z;use b at 1 2;use c at 3 4 by 5 turn 1;path M a b;path Z;}")
	if items := fmt.Sprint(got.Cmds[0].Items); items != "[{false 24 [{7 29 []}]  [{ 0 0} { 0 0}] { 0 0} 0} {true 31 [] b [{ 1000000 40} { 2000000 42}] { 1000000 31} 0} {true 44 [] c [{ 3000000 53} { 4000000 55}] { 5000000 60} 1} {false 69 [{1 74 [{a 0 76} {b 0 78}]}]  [{ 0 0} { 0 0}] { 0 0} 0} {false 80 [{7 85 []}]  [{ 0 0} { 0 0}] { 0 0} 0}]" {
		t.Error(items)
	}
}

// P10.1: a name may be any that chapter 8 takes, one that another kind has, too; whose it is is not asked here.
func TestNames(t *testing.T) {
	longest := strings.Repeat("n", api.MaxName)
	for _, name := range []string{"a", "m", "z", "icons", "fill_", "at1", "x_9", longest} {
		got := checkTaken(t, head+"const "+name+"=1;color "+name+"=#000000;shape "+name+"{use "+name+" at "+name+" "+name+" by "+name+";}line "+name+" "+name+"{path M "+name+" "+name+";}")
		use, cmd := got.Shapes[0].Items[0], got.Cmds[0]
		for _, is := range []string{got.Consts[0].Name, got.Colors[0].Name, got.Shapes[0].Name, use.Name, use.At[0].Name, use.At[1].Name, use.By.Name, cmd.Width.Name, cmd.Paint.A.Name, cmd.Items[0].Steps[0].V[1].Name} {
			if is != name {
				t.Errorf("%q, not %q", is, name)
			}
		}
	}
}
