package print

import (
	"fmt"
	"reflect"
	"strings"
	"testing"

	"glyphic/api"
	"glyphic/parse"
)

// first is the first line of what is written of each text that begins with head.
const (
	head  = "icon 1 1;"
	first = "icon 1 1 scale 0;\n"
)

// noPlaces sets each Pos in v to 0.
func noPlaces(v reflect.Value) {
	switch v.Kind() {
	case reflect.Struct:
		for k := range v.NumField() {
			if v.Type().Field(k).Name == "Pos" {
				v.Field(k).SetInt(0)
			} else {
				noPlaces(v.Field(k))
			}
		}
	case reflect.Slice, reflect.Array:
		for k := range v.Len() {
			noPlaces(v.Index(k))
		}
	}
}

// read is what parse takes s for.
func read(t *testing.T, s string) api.Src {
	t.Helper()
	got, err := parse.Src(s)
	if err != nil {
		t.Fatalf("parse.Src(%.300q): %v", s, err)
	}
	return got
}

// told is all that is read of s, but for places, nil and empty lists alike.
func told(t *testing.T, s string) string {
	t.Helper()
	got := read(t, s)
	noPlaces(reflect.ValueOf(&got).Elem())
	return fmt.Sprintf("%+v", got)
}

// checkPrinted: what is read of s is written as want; that is read as the same but for places, and written the same again.
func checkPrinted(t *testing.T, s, want string) {
	t.Helper()
	is := read(t, s)
	if got := Src(is); got != want {
		t.Errorf("of %.300q:\n%s\nnot\n%s", s, got, want)
		return
	}
	if got, want := told(t, want), told(t, s); got != want {
		t.Errorf("%.300q, printed, is read as\n%s\nnot\n%s", s, got, want)
	}
	again := read(t, want)
	if got := Src(again); got != want {
		t.Errorf("of %.300q, printed again:\n%s", want, got)
	}
	if !Same(is, again) || !Same(again, is) || !Same(is, is) {
		t.Errorf("%.300q, printed, is not the same", s)
	}
}

// P11.1: the chapter's example.
func TestExample(t *testing.T) {
	checkPrinted(t, "icon 1 1;", "icon 1 1 scale 0;\n")
}

// P11.1: the chapter's lines, each as it stands there.
func TestChapterLines(t *testing.T) {
	lines := []string{
		"icon 4 3 scale 2;", "const a = 1.5;", "color b = #ff0000;",
		"shape c {", "  path M 0 0 L 1 a Z;", "  use c at 0 0 by 2 turn 1;", "}",
		"fill nonzero linear b #00ff00 0 0 1 1 {", "}", "line 2 b {", "  path M 0 0 L 1 a Z;", "}",
	}
	s := strings.Join(lines, "\n") + "\n"
	checkPrinted(t, s, s)
	checkPrinted(t, strings.Join(strings.Fields(s), "\n"), s)
	checkPrinted(t, strings.Join(strings.Fields(s), " // ; }\n"), s)
}

// P11.1: W, H and Scale, always all of them.
func TestHead(t *testing.T) {
	for _, x := range [][2]string{
		{"icon 4 3 scale 2;", "icon 4 3 scale 2;\n"},
		{"icon 4 3 scale 0;", "icon 4 3 scale 0;\n"},
		{"icon 4 3;", "icon 4 3 scale 0;\n"},
		{"icon 0 0;", "icon 0 0 scale 0;\n"},
		{"icon 007 000010 scale 02;", "icon 7 10 scale 2;\n"},
		{"icon 999999 4097 scale 100000;", "icon 999999 4097 scale 100000;\n"},
		{"icon 000000 1 scale 000000;", "icon 0 1 scale 0;\n"},
	} {
		checkPrinted(t, x[0], x[1])
	}
}

// numbers are as they may be written, and as they are written.
func numbers() [][2]string {
	return [][2]string{
		{"0", "0"}, {"1", "1"}, {"-1", "-1"}, {"-0", "0"}, {"-0.0", "0"}, {"000000.000000", "0"}, {"1.5", "1.5"}, {"-1.5", "-1.5"}, {"-0.5", "-0.5"},
		{"1.50", "1.5"}, {"007", "7"}, {"-007.10", "-7.1"}, {"10", "10"}, {"100000", "100000"}, {"0.1", "0.1"}, {"0.01", "0.01"}, {"0.000001", "0.000001"},
		{"-0.000001", "-0.000001"}, {"0.000010", "0.00001"}, {"1.000000", "1"}, {"20.020", "20.02"}, {"999999.999999", "999999.999999"}, {"-999999.999999", "-999999.999999"},
		{"000001.000001", "1.000001"},
	}
}

// P11.1: consts, each number as P9.1 has it.
func TestConsts(t *testing.T) {
	for _, n := range numbers() {
		checkPrinted(t, head+"const a="+n[0]+";", first+"const a = "+n[1]+";\n")
	}
	checkPrinted(t, head+"const z_9=1;const a=-2;const z_9=3;", first+"const z_9 = 1;\nconst a = -2;\nconst z_9 = 3;\n")
}

// colors are as they may be written, and as they are written.
func colors() [][2]string {
	return [][2]string{
		{"#ff0000", "#ff0000"}, {"#000000", "#000000"}, {"#ff0000ff", "#ff0000"}, {"#ff000080", "#ff000080"}, {"#00000000", "#00000000"},
		{"#01020304", "#01020304"}, {"#abcdeffe", "#abcdeffe"}, {"#fffffffe", "#fffffffe"}, {"#ffffff", "#ffffff"}, {"#000000ff", "#000000"}, {"#ffffff00", "#ffffff00"},
	}
}

// P11.1: colors, each as P3.1 has it.
func TestColors(t *testing.T) {
	for _, c := range colors() {
		checkPrinted(t, head+"color a="+c[0]+";", first+"color a = "+c[1]+";\n")
	}
	checkPrinted(t, head+"color z_9=#010203;color a=#040506;color z_9=#07080900;", first+"color z_9 = #010203;\ncolor a = #040506;\ncolor z_9 = #07080900;\n")
}

// P11.1: shapes, with no item, one, several of both kinds.
func TestShapes(t *testing.T) {
	checkPrinted(t, head+"shape a{}", first+"shape a {\n}\n")
	checkPrinted(t, head+"shape a{path Z;}", first+"shape a {\n  path Z;\n}\n")
	checkPrinted(t, head+"shape a{use b at 1 2;}", first+"shape a {\n  use b at 1 2 by 1 turn 0;\n}\n")
	checkPrinted(t, head+"shape b{path Z;use c at d 0;path M 1 2;path M 1 2;}shape a{}shape b{use b at 0 0;use a at 0 0;}",
		first+"shape b {\n  path Z;\n  use c at d 0 by 1 turn 0;\n  path M 1 2;\n  path M 1 2;\n}\nshape a {\n}\nshape b {\n  use b at 0 0 by 1 turn 0;\n  use a at 0 0 by 1 turn 0;\n}\n")
}

// P11.1: each step by its letter, its vals as numbers and as names.
func TestSteps(t *testing.T) {
	for _, step := range []string{
		"M 1 2", "M a -2.5", "L 1 2", "L -0.5 b", "Q 1 2 3 4", "Q a 2 b 4", "C 1 2 3 4 5 6", "C -1 b 3 d 5 f", "A 1 2", "A a b", "B 1 2", "B -3 z_1", "Z",
	} {
		for _, begin := range []string{"shape s", "line 1 b", "fill evenodd b"} {
			want := first + begin + " {\n  path " + step + ";\n}\n"
			checkPrinted(t, head+begin+"{path "+step+";}", want)
			checkPrinted(t, want, want)
			want = first + begin + " {\n  path " + step + " " + step + " Z M 0 0;\n  path Z " + step + ";\n}\n"
			checkPrinted(t, want, want)
		}
	}
	for _, n := range numbers() {
		checkPrinted(t, head+"shape s{path A 1 "+n[0]+" Q a 2 "+n[0]+" b Z;}", first+"shape s {\n  path A 1 "+n[1]+" Q a 2 "+n[1]+" b Z;\n}\n")
	}
}

// P11.1: a use, with by and turn always.
func TestUses(t *testing.T) {
	for _, x := range [][2]string{
		{"use c at 0 0", "use c at 0 0 by 1 turn 0"}, {"use c at 0 0 by 2", "use c at 0 0 by 2 turn 0"}, {"use c at 0 0 turn 1", "use c at 0 0 by 1 turn 1"},
		{"use c at 0 0 by 2 turn 1", "use c at 0 0 by 2 turn 1"}, {"use c at a b by d turn 2", "use c at a b by d turn 2"}, {"use c at -1.50 by_ by-0.5 turn 003", "use c at -1.5 by_ by -0.5 turn 3"},
		{"use c at 1 2 by 0", "use c at 1 2 by 0 turn 0"}, {"use c at c c by c", "use c at c c by c turn 0"}, {"use c at 1 2 by 1 turn 0", "use c at 1 2 by 1 turn 0"},
	} {
		for _, begin := range []string{"shape s", "line 1 b", "fill nonzero b"} {
			checkPrinted(t, head+begin+"{"+x[0]+";}", first+begin+" {\n  "+x[1]+";\n}\n")
			checkPrinted(t, head+begin+"{"+x[0]+";path Z;"+x[0]+";}", first+begin+" {\n  "+x[1]+";\n  path Z;\n  "+x[1]+";\n}\n")
		}
	}
	for _, n := range numbers() {
		checkPrinted(t, head+"shape s{use c at "+n[0]+" 7 by "+n[0]+";use c at 7 "+n[0]+";}", first+"shape s {\n  use c at "+n[1]+" 7 by "+n[1]+" turn 0;\n  use c at 7 "+n[1]+" by 1 turn 0;\n}\n")
	}
}

// P11.1: fills with either rule, lines, each with each paint, with refs and vals of both kinds.
func TestCommands(t *testing.T) {
	paints := []string{
		"b", "#00ff00", "#00ff0080", "linear b #00ff00 0 0 1 1", "linear #01020300 c x -2.5 0.5 y", "linear b b a b c d",
		"radial b #00ff00 0 1 2", "radial #01020300 c x -2.5 0.5", "radial c c y z a",
	}
	for _, begin := range []string{"fill evenodd", "fill nonzero", "line 2", "line -0.5", "line w"} {
		for _, paint := range paints {
			want := first + begin + " " + paint + " {\n}\n"
			checkPrinted(t, head+begin+" "+paint+"{}", want)
			want = first + begin + " " + paint + " {\n  path Z;\n}\n"
			checkPrinted(t, head+begin+" "+paint+"{path Z;}", want)
			for _, then := range paints {
				want := first + begin + " " + paint + " {\n}\nfill nonzero " + then + " {\n  path Z;\n}\nline 1 " + paint + " {\n}\n"
				checkPrinted(t, want, want)
			}
		}
	}
	for _, n := range numbers() {
		checkPrinted(t, head+"line "+n[0]+" radial a b 1 2 "+n[0]+"{}", first+"line "+n[1]+" radial a b 1 2 "+n[1]+" {\n}\n")
		checkPrinted(t, head+"line 3 linear a b 1 "+n[0]+" a "+n[0]+"{}", first+"line 3 linear a b 1 "+n[1]+" a "+n[1]+" {\n}\n")
	}
	for _, c := range colors() {
		checkPrinted(t, head+"line 1 "+c[0]+"{}", first+"line 1 "+c[1]+" {\n}\n")
		checkPrinted(t, head+"line 1 linear a "+c[0]+" 1 2 3 4{}", first+"line 1 linear a "+c[1]+" 1 2 3 4 {\n}\n")
		checkPrinted(t, head+"fill evenodd radial "+c[0]+" b 1 2 3{}", first+"fill evenodd radial "+c[1]+" b 1 2 3 {\n}\n")
	}
}

// P11.1: first all consts, colors, shapes, then commands, each kind in its own order.
func TestOrder(t *testing.T) {
	checkPrinted(t, head+"line 1 a{}shape c{}color d=#000000;const b=1;fill nonzero e{}shape a{}const a=2;color a=#ffffff;line i j{}fill evenodd a{}const b=1;",
		first+"const b = 1;\nconst a = 2;\nconst b = 1;\ncolor d = #000000;\ncolor a = #ffffff;\nshape c {\n}\nshape a {\n}\n"+
			"line 1 a {\n}\nfill nonzero e {\n}\nline i j {\n}\nfill evenodd a {\n}\n")
	pieces := map[string]string{
		"const a=1;": "const a = 1;\n", "color a=#000000;": "color a = #000000;\n", "shape a{path Z;}": "shape a {\n  path Z;\n}\n", "line a a{}": "line a a {\n}\n",
	}
	all := []string{"const a=1;", "color a=#000000;", "shape a{path Z;}", "line a a{}"}
	for i, a := range all {
		for j, b := range all {
			one, other := a, b
			if j < i {
				one, other = b, a
			}
			checkPrinted(t, head+a+b, first+pieces[one]+pieces[other])
		}
	}
}

// P11.1: of a written icon that no text was, and without places.
func TestByHand(t *testing.T) {
	num := func(n int64) api.Val { return api.Val{N: n} }
	path := api.Item{Steps: []api.Step{{Kind: api.Move, V: []api.Val{num(-1), num(0)}}, {Kind: api.CubeTo, V: []api.Val{num(1), num(20), num(300000), num(4000000), {Name: "a"}, num(6500000)}}, {Kind: api.Close}}}
	use := api.Item{Use: true, Name: "c", At: [2]api.Val{num(1000000), {Name: "a"}}, By: num(2500000), Turn: 3}
	s := api.Src{W: 24, H: 16, Scale: 6,
		Consts: []api.Const{{Name: "a", N: 1500000}, {Name: "n", N: -999999999999}},
		Colors: []api.Named{{Name: "b", C: api.Color{R: 255, A: 255}}, {Name: "d", C: api.Color{B: 1}}},
		Shapes: []api.Shape{{Name: "c", Items: []api.Item{path, use}}, {Name: "e", Items: []api.Item{}}},
		Cmds: []api.SrcCmd{
			{Kind: api.Outline, Width: api.Val{Name: "a"}, Paint: api.SrcPaint{A: api.Ref{Name: "b"}}, Items: []api.Item{use, path}},
			{Kind: api.Fill, Rule: api.EvenOdd, Paint: api.SrcPaint{Kind: api.Radial, A: api.Ref{C: api.Color{G: 255, A: 255}}, B: api.Ref{Name: "d"}, V: [4]api.Val{num(1), {Name: "a"}, num(3000000)}}},
			{Kind: api.Fill, Rule: api.NonZero, Paint: api.SrcPaint{Kind: api.Linear, A: api.Ref{Name: "b"}, B: api.Ref{C: api.Color{R: 1, G: 2, B: 3, A: 4}}, V: [4]api.Val{num(1000000), num(-2000000), {Name: "a"}, num(4000000)}}},
		}}
	const pathLine, useLine = "  path M -0.000001 0 C 0.000001 0.00002 0.3 4 a 6.5 Z;\n", "  use c at 1 a by 2.5 turn 3;\n"
	want := "icon 24 16 scale 6;\nconst a = 1.5;\nconst n = -999999.999999;\ncolor b = #ff0000;\ncolor d = #00000100;\n" +
		"shape c {\n" + pathLine + useLine + "}\nshape e {\n}\nline a b {\n" + useLine + pathLine + "}\n" +
		"fill evenodd radial #00ff00 d 0.000001 a 3 {\n}\nfill nonzero linear b #01020304 1 -2 a 4 {\n}\n"
	if got := Src(s); got != want {
		t.Errorf("%s\nnot\n%s", got, want)
	}
	checkPrinted(t, want, want)
}

// P11.1: a name may be any that chapter 8 takes, of a const, a color, a shape alike.
func TestNames(t *testing.T) {
	for _, n := range []string{"a", "m", "z", "icons", "fill_", "at1", "x_9", strings.Repeat("n", api.MaxName)} {
		want := first + strings.ReplaceAll("const N = 1;\ncolor N = #000000;\nshape N {\n  use N at N N by N turn 0;\n}\nline N linear N N N N N N {\n  path M N N Q N N N N;\n}\n", "N", n)
		checkPrinted(t, want, want)
	}
}

// P11.1, P11.2: as many as a text may have of each.
func TestMost(t *testing.T) {
	most := func(begin, piece string, n int, end string) {
		t.Helper()
		want := first + begin + strings.Repeat(piece, n) + end
		checkPrinted(t, want, want)
	}
	most("", "const a = 1;\n", api.MaxShapes, "")
	most("", "color a = #000000;\n", api.MaxShapes, "")
	most("", "shape a {\n}\n", api.MaxShapes, "")
	most("", "fill evenodd radial a b 1 2 3 {\n  path Z;\n}\n", api.MaxCmds, "")
	most("line 1 a {\n", "  use a at 0 0 by 1 turn 0;\n", api.MaxItems, "}\n")
	most("shape a {\n", "  path M 1 2 Z;\n", api.MaxItems, "}\n")
	most("shape a {\n  path", " C 1 2 a b 5 6", 1000, ";\n}\n")
}

// P11.2: what is written may be longer than what was read: up to MaxBytes it is read again, beyond that it is word's ErrLimit.
func TestLongest(t *testing.T) {
	short := strings.NewReplacer("\n", "", " {", "{", "  path", "path", " scale 0", "")
	for size := api.MaxBytes - 4; size <= api.MaxBytes+4; size++ {
		want := sized(size)
		if len(want) != size {
			t.Fatalf("%d bytes, not %d", len(want), size)
		}
		s := short.Replace(want)
		if size <= api.MaxBytes {
			checkPrinted(t, s, want)
			checkPrinted(t, want, want)
			continue
		}
		if got := Src(read(t, s)); got != want {
			t.Errorf("of %d bytes: %d bytes", size, len(got))
		}
		got, err := parse.Src(want)
		at, ok := err.(*api.At)
		if !ok || at.Pos != api.MaxBytes || at.Err != api.ErrLimit || !reflect.ValueOf(got).IsZero() {
			t.Errorf("of %d bytes: %v", size, err)
		}
	}
}

// sized is a text of so many bytes, as it is to be written.
func sized(size int) string {
	line := func(name string, steps int) string {
		return "line 1 " + name + " {\n  path" + strings.Repeat(" Z", steps) + ";\n}\n"
	}
	s := first
	for size-len(s) > len(line("a", 1000)) {
		s += line("a", 500)
	}
	left := size - len(s)
	name := strings.Repeat("a", 1+(left-len(line("a", 0)))%2)
	return s + line(name, (left-len(line(name, 0)))/2)
}
