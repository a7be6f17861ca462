package parse

import (
	"errors"
	"strings"
	"testing"

	"glyphic/api"
	"glyphic/word"
)

// checkMost: so many of the piece may be behind begin, and end behind these; one more is told, around where it stands in the piece.
func checkMost(t *testing.T, most int, begin, piece, end string, place int) {
	t.Helper()
	s := begin + strings.Repeat(piece, most)
	checkTaken(t, s+end)
	checkTaken(t, begin+strings.Repeat(piece, most-1)+end)
	for _, then := range []string{piece + end, piece, piece + piece + end, piece + "; ; turn" + end} {
		checkFault(t, s+then, len(s)+place, api.ErrLimit)
	}
	// What is amiss ahead of it is told first.
	checkFault(t, strings.Replace(s, "icon", "path", 1)+piece+end, 0, api.ErrText)
}

// checkCount holds the length of a list of what Src takes.
func checkCount(t *testing.T, name string, got, want int) {
	t.Helper()
	if got != want {
		t.Errorf("%s: %d, not %d", name, got, want)
	}
}

// P10.1: MaxShapes consts, colors, shapes, each for itself; one more around its name.
func TestMostNames(t *testing.T) {
	consts, colors, shapes := "const a=1;", "color a=#000000;", "shape a{}"
	for _, piece := range []string{consts, colors, shapes, "const n_1 = -1.5; ", "color n_1 // so\n = #01020304; ", "shape n_1 { path Z; } "} {
		checkMost(t, api.MaxShapes, head, piece, "", 6)
		checkMost(t, api.MaxShapes, head, piece, "line 1 a{}", 6)
	}
	all := strings.Repeat(consts+colors+shapes, 64)
	got := checkTaken(t, head+all)
	checkCount(t, "consts", len(got.Consts), 64)
	checkCount(t, "colors", len(got.Colors), 64)
	checkCount(t, "shapes", len(got.Shapes), 64)
	for _, piece := range []string{consts, colors, shapes} {
		checkFault(t, head+all+piece, len(head+all)+6, api.ErrLimit)
		checkFault(t, head+all+piece[:7], len(head+all)+6, api.ErrLimit)
		checkFault(t, head+strings.Repeat(piece, 64)+"line 1 a{}"+piece, 9+64*len(piece)+10+6, api.ErrLimit)
		// What is no name can't be there, however many there are.
		for _, wrong := range []string{"at", "1", ";", "=", "#000000", "M"} {
			checkFault(t, head+all+piece[:6]+wrong, len(head+all)+6, api.ErrText)
		}
		checkFault(t, head+all+piece[:6], len(head+all)+6, api.ErrText)
		checkFault(t, head+all+piece[:5], len(head+all)+5, api.ErrText)
	}
}

// P10.1: MaxCmds commands, fills and lines together; one more around its first word.
func TestMostCommands(t *testing.T) {
	for _, piece := range []string{"line 1 a{}", "fill evenodd a{}", "fill nonzero radial a b 1 2 3{path Z;}", "line w linear a b 1 2 3 4 { }\n"} {
		checkMost(t, api.MaxCmds, head, piece, "", 0)
		checkMost(t, api.MaxCmds, head, piece, "const a=1;", 0)
	}
	mixed := head + strings.Repeat("line 1 a{}fill evenodd a{}", 100)
	checkCount(t, "commands", len(checkTaken(t, mixed).Cmds), 200)
	for _, piece := range []string{"line", "fill", "line 1 a{}", "fill evenodd a{}", "line ;", "fill fill"} {
		checkFault(t, mixed+piece, len(mixed), api.ErrLimit)
		checkFault(t, mixed+"shape a{}"+piece, len(mixed)+9, api.ErrLimit)
	}
	checkTaken(t, mixed+"shape a{}const a=1;color a=#000000;")
	checkFault(t, mixed+"path", len(mixed), api.ErrText)
}

// P10.1: MaxItems items of a list, paths and uses together, of each list for itself; one more around its first word.
func TestMostItems(t *testing.T) {
	for _, begin := range []string{"shape a{", "fill evenodd a{", "line 1 a{", "fill nonzero radial a b 1 2 3{"} {
		for _, piece := range []string{"path Z;", "use a at 0 0;", "path M 1 2 L 3 4; ", "use a at 0 0 by 1 turn 3;\n"} {
			checkMost(t, api.MaxItems, head+begin, piece, "}", 0)
		}
		mixed := head + begin + strings.Repeat("path Z;use a at 0 0;", 200)
		checkTaken(t, mixed+"}")
		for _, piece := range []string{"path", "use", "path Z;}", "use a at 0 0;}", "path use", "use path"} {
			checkFault(t, mixed+piece, len(mixed), api.ErrLimit)
		}
		checkFault(t, mixed+"fill", len(mixed), api.ErrText)
		checkFault(t, mixed, len(mixed), api.ErrText)
	}
	several := head
	for _, begin := range []string{"shape a{", "line 1 a{", "shape b{", "fill evenodd a{", "line 1 a{"} {
		several += begin + strings.Repeat("path Z;", 400) + "}"
	}
	got := checkTaken(t, several)
	for _, s := range got.Shapes {
		checkCount(t, "items of a shape", len(s.Items), 400)
	}
	for _, c := range got.Cmds {
		checkCount(t, "items of a command", len(c.Items), 400)
	}
}

// P10.1: 1000 steps of a path, of each for itself; one more around its letter.
func TestMostSteps(t *testing.T) {
	for _, begin := range []string{"shape a{path ", "line 1 a{path Z;path ", "fill evenodd a{use a at 0 0;path "} {
		for _, piece := range []string{"Z ", "M 1 2 ", "L a b ", "Q 1 2 3 4 ", "C 1 2 3 4 5 6 ", "A-1-2 ", "B 1 2\n"} {
			checkMost(t, 1000, head+begin, piece, ";}", 0)
		}
		mixed := head + begin + strings.Repeat("Z A 1 2 L 1 2 ", 333) + "M 1 2 "
		checkTaken(t, mixed+";}")
		for _, letter := range []string{"M", "L", "Q", "C", "A", "B", "Z", "M ;", "Z Z"} {
			checkFault(t, mixed+letter, len(mixed), api.ErrLimit)
		}
		checkFault(t, mixed+"1", len(mixed), api.ErrText)
		checkFault(t, mixed, len(mixed), api.ErrText)
	}
	got := checkTaken(t, head+"line 1 a{path "+strings.Repeat("Z ", 1000)+";path "+strings.Repeat("Z ", 1000)+";}shape a{path "+strings.Repeat("Z ", 1000)+";}")
	checkCount(t, "steps of the first", len(got.Cmds[0].Items[0].Steps), 1000)
	checkCount(t, "steps of the second", len(got.Cmds[0].Items[1].Steps), 1000)
	checkCount(t, "steps of the third", len(got.Shapes[0].Items[0].Steps), 1000)
}

// P10.1: Turn up to 3; above it, around the number, however the text goes on; no whole number: ErrText.
func TestTurn(t *testing.T) {
	for _, begin := range []string{head + "line 1 a{use b at 0 0 turn ", head + "shape a{use b at 0 0 by 2 turn "} {
		for _, may := range []string{"0", "1", "2", "3", "000003"} {
			checkTaken(t, begin+may+";}")
		}
		for _, above := range []string{"4", "5", "10", "30", "04", "999999"} {
			for _, then := range []string{";}", "", ";", " 1", " by 1;}"} {
				checkFault(t, begin+above+then, len(begin), api.ErrLimit)
			}
		}
		for _, wrong := range []string{"-1", "-4", "1.0", "3.5", "4.0", "4.5", "n", "#000004", ";", "M", "turn"} {
			checkFault(t, begin+wrong+";}", len(begin), api.ErrText)
		}
		checkFault(t, begin, len(begin), api.ErrText)
	}
}

// P10.1: word.Split's error is told first, wherever it is.
func TestSplitFirst(t *testing.T) {
	for _, s := range []string{
		"?", "icons ?", "; ; ?", head + "const a = 1; }?", head + "line 1 a { use b at 0 0 turn 4; } 1x", head + strings.Repeat("line 1 a{}", 201) + "#12",
		head + "M1", head + "const " + strings.Repeat("n", api.MaxName+1) + " = 1;", head + "const a = 1234567;", head + "const a = 1.;", head + "const a = .5;", head + "const a = +1;",
		head + "color a = #fff;", head + "color a = #FF0000;", head + "shape A_b {}", head + "/ a remark", head + "\x00", head + "\u00e9",
		strings.Repeat(" ", api.MaxBytes+1), head + strings.Repeat(" ", api.MaxBytes), "?" + strings.Repeat("1", api.MaxBytes), strings.Repeat("line 1 a{}", 6001),
	} {
		_, err := word.Split(s)
		var at *api.At
		if !errors.As(err, &at) {
			t.Errorf("%.100q: words", s)
			continue
		}
		checkFault(t, s, at.Pos, at.Err)
	}
	checkFault(t, head+strings.Repeat(" ", api.MaxBytes), api.MaxBytes, api.ErrLimit)
	checkFault(t, "icons ?", 6, api.ErrText)
}

// P10.1: a text of MaxBytes is read; what lacks in it is told around its length.
func TestLongest(t *testing.T) {
	s := head + strings.Repeat(" ", api.MaxBytes-len(head))
	checkSrc(t, s, api.Src{W: 1, H: 1})
	s = strings.Repeat("\n", api.MaxBytes-len(head)) + head
	checkSrc(t, s, api.Src{W: 1, H: 1})
	checkFault(t, strings.Repeat("\n", api.MaxBytes), api.MaxBytes, api.ErrText)
	checkFault(t, strings.Repeat(";", api.MaxBytes), 0, api.ErrText)
	checkFault(t, head+strings.Repeat(";", api.MaxBytes-len(head)), len(head), api.ErrText)
	checkFault(t, head+"const a = 1 //"+strings.Repeat(";", api.MaxBytes-len(head)-14), api.MaxBytes, api.ErrText)
}

// P10.1: nothing, and nothing but what lies between words.
func TestNothing(t *testing.T) {
	for _, s := range []string{"", " ", "\n", "//", "// icon 1 1;", "  // icon\n\t\r\n"} {
		checkFault(t, s, len(s), api.ErrText)
	}
}
