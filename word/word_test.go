package word

import (
	"errors"
	"fmt"
	"slices"
	"strings"
	"testing"

	"glyphic/api"
)

const reserved = "icon scale const color shape fill evenodd nonzero line linear radial path use at by turn"

// told are words in short: place, kind, bytes of each.
func told(words []Word) string {
	var out []string
	for _, w := range words {
		out = append(out, fmt.Sprint(w.Pos, " ", w.Kind, " ", w.Text))
	}
	return strings.Join(out, ", ")
}

// checkWords holds what Split answers against words, in short.
func checkWords(t *testing.T, s, want string) {
	t.Helper()
	if words, err := Split(s); err != nil || told(words) != want {
		t.Errorf("Split(%.80q): %s, %v, not %s", s, told(words), err, want)
	}
}

// checkOne holds what Split answers for s, alone, at a place and between others, against just one word, of that kind.
func checkOne(t *testing.T, kind int, s string) {
	t.Helper()
	checkWords(t, s, fmt.Sprint("0 ", kind, " ", s))
	checkWords(t, "b "+s+" ; ", fmt.Sprintf("0 1 b, 2 %d %s, %d 5 ;", kind, s, len(s)+3))
	checkWords(t, ";"+s+"}", fmt.Sprintf("0 5 ;, 1 %d %s, %d 5 }", kind, s, len(s)+1))
	checkWords(t, "{"+s+"//"+s, fmt.Sprintf("0 5 {, 1 %d %s", kind, s))
}

// checkAt holds what Split answers against an error around a place, with no words beside it.
func checkAt(t *testing.T, s string, pos int, want error) {
	t.Helper()
	words, err := Split(s)
	var at *api.At
	if !errors.As(err, &at) || at.Pos != pos || at.Err != want || len(words) != 0 {
		t.Errorf("Split(%.80q): %s, %v, not %d: %v", s, told(words), err, pos, want)
	}
}

// checkAmiss holds what Split answers for s against ErrText where s begins: alone, behind words, ahead of a blank, ahead of another fault.
func checkAmiss(t *testing.T, s string) {
	t.Helper()
	checkAt(t, s, 0, api.ErrText)
	checkAt(t, "a = 1; "+s, 7, api.ErrText)
	checkAt(t, "// one\n"+s+" b", 7, api.ErrText)
	checkAt(t, "{"+s+" ? - #", 1, api.ErrText)
}

// P8.1: the document's example.
func TestNothing(t *testing.T) {
	for _, s := range []string{"", " ", "\t", "\n", "\r", " \t\n\r \r\n", "//", "// all of it", "//\n", "\n//\n//", "/// ?\r\n", "//\x00\xff\u00e9 //"} {
		if words, err := Split(s); len(words) != 0 || err != nil {
			t.Errorf("Split(%q): %s, %v, not nothing", s, told(words), err)
		}
	}
}

// P8.1: an ordinary text, each kind of word at its place.
func TestText(t *testing.T) {
	checkWords(t, "icon 24 24 scale 2;\ncolor red = #ff0000;\n",
		"0 2 icon, 5 3 24, 8 3 24, 11 2 scale, 17 3 2, 18 5 ;, 20 2 color, 26 1 red, 30 5 =, 32 4 #ff0000, 39 5 ;")
	checkWords(t, "fill evenodd red{path M-1.5 r Z;}// it\r\n use leaf_2 at 1 2",
		"0 2 fill, 5 2 evenodd, 13 1 red, 16 5 {, 17 2 path, 22 6 M, 23 3 -1.5, 28 1 r, 30 6 Z, 31 5 ;, 32 5 }, 41 2 use, 45 1 leaf_2, 52 2 at, 55 3 1, 57 3 2")
}

// P8.1: the numbers of the kinds.
func TestKinds(t *testing.T) {
	if got := [6]int{Name, Key, Number, Color, Mark, Step}; got != [6]int{1, 2, 3, 4, 5, 6} {
		t.Errorf("%v", got)
	}
}

// P8.1: each blank parts words; nothing else does.
func TestBlanks(t *testing.T) {
	for c := range 256 {
		s := "a" + string([]byte{byte(c)}) + "b"
		words, err := Split(s)
		parts := err == nil && told(words) == "0 1 a, 2 1 b"
		if want := c == 0x20 || c == 0x09 || c == 0x0a || c == 0x0d; parts != want {
			t.Errorf("%q: %s, %v", s, told(words), err)
		}
	}
	for _, blank := range []string{" ", "\t", "\n", "\r"} {
		checkWords(t, blank+"a"+blank+blank+"1"+blank, "1 1 a, 4 3 1")
	}
	for _, none := range []string{"\v", "\f", "\x00", "\x85", "\u0085", "\u00a0", "\u2003", "\u2028", "\ufeff"} {
		checkAt(t, "a"+none+"b", 1, api.ErrText)
		checkAt(t, none, 0, api.ErrText)
	}
}

// P8.1: from // to its line's end nothing counts.
func TestRemarks(t *testing.T) {
	checkWords(t, "a//b\nc", "0 1 a, 5 1 c")
	checkWords(t, "a // b c ? #\n// d\n\n  c//e", "0 1 a, 21 1 c")
	checkWords(t, "a//b", "0 1 a")
	checkWords(t, "a//", "0 1 a")
	checkWords(t, "a//b//c\n//\nd", "0 1 a, 11 1 d")
	checkWords(t, "a///b\nc", "0 1 a, 6 1 c")
	checkWords(t, "//a\n1", "4 3 1")
	// Just a 0x0a ends a line.
	checkWords(t, "a//b\rc\vd\u2028e\nf", "0 1 a, 13 1 f")
	checkWords(t, "a//b\r\nc", "0 1 a, 6 1 c")
	// A remark parts words.
	checkWords(t, "a//\nb", "0 1 a, 4 1 b")
	checkWords(t, "1//\n2", "0 3 1, 4 3 2")
	checkWords(t, "M//\nM", "0 6 M, 4 6 M")
	checkWords(t, "#ff0000//\n#ff0000", "0 4 #ff0000, 10 4 #ff0000")
	// What is amiss is told behind a remark, not in it.
	checkAt(t, "// ?\n ?", 6, api.ErrText)
	checkAt(t, "// ?\n/ /?", 5, api.ErrText)
}

// P8.1: one / alone is no word.
func TestSlash(t *testing.T) {
	checkAmiss(t, "/")
	checkAmiss(t, "/ /")
	checkAmiss(t, "/a")
	checkAmiss(t, "/*a*/")
	checkAt(t, "a/b", 1, api.ErrText)
	checkAt(t, "a/\n/b", 1, api.ErrText)
	checkAt(t, "1/2", 1, api.ErrText)
	checkAt(t, "M/2", 1, api.ErrText)
	checkAt(t, "#ff0000/", 7, api.ErrText)
	checkAt(t, "//\n/", 3, api.ErrText)
}

// P8.1: each reserved word is a Key; a longer one, a shorter one and one with a great letter is not.
func TestReserved(t *testing.T) {
	words := strings.Fields(reserved)
	if len(words) != 16 {
		t.Fatal(len(words))
	}
	for _, k := range words {
		checkOne(t, Key, k)
		for _, more := range []string{"s", "_", "0"} {
			checkOne(t, Name, k+more)
		}
		if shorter := k[:len(k)-1]; !slices.Contains(words, shorter) {
			checkOne(t, Name, shorter)
		}
		if behind := k[1:]; !slices.Contains(words, behind) {
			checkOne(t, Name, behind)
		}
		checkOne(t, Name, k+k)
	}
	for _, s := range strings.Fields("rule width height outline stroke rect circle flat move quad cubic arc close paint group even odd zero non rotate to from with if let def var func name key number mark step glyph") {
		checkOne(t, Name, s)
	}
	checkAt(t, "Icon", 0, api.ErrText)
	checkAt(t, "LINE", 0, api.ErrText)
	checkWords(t, "iconM", "0 2 icon, 4 6 M")
	checkWords(t, "at-1 by#ff0000", "0 2 at, 2 3 -1, 5 2 by, 7 4 #ff0000")
}

// P8.1: names, as long as may be, and longer.
func TestNames(t *testing.T) {
	for _, s := range []string{"a", "z", "ab", "a1", "a_", "a__9", "z0123456789_", "abcdefghijklmnopqrstuvwx", "yz", "m", "l", "iconat", "fill_", "x2y"} {
		checkOne(t, Name, s)
	}
	for _, sign := range []string{"a", "z", "0", "9", "_"} {
		checkOne(t, Name, "a"+strings.Repeat(sign, api.MaxName-1))
		checkAmiss(t, "a"+strings.Repeat(sign, api.MaxName))
		checkAmiss(t, "a"+strings.Repeat(sign, 2*api.MaxName))
		checkAmiss(t, "a"+strings.Repeat(sign, 1000))
	}
	// Too long, though a reserved word stands ahead.
	checkAmiss(t, "icon"+strings.Repeat("n", api.MaxName-3))
	for _, s := range []string{"_", "_a", "__", "_1"} {
		checkAmiss(t, s)
	}
}

// P8.1: a name ends where a sign is none of its own, and another word may begin there.
func TestNameEnds(t *testing.T) {
	checkWords(t, "a#ff0000", "0 1 a, 1 4 #ff0000")
	checkWords(t, "a-1", "0 1 a, 1 3 -1")
	checkWords(t, "a1-1", "0 1 a1, 2 3 -1")
	checkWords(t, "aB", "0 1 a, 1 6 B")
	checkWords(t, "a_B;", "0 1 a_, 2 6 B, 3 5 ;")
	checkWords(t, "a=b", "0 1 a, 1 5 =, 2 1 b")
	long := strings.Repeat("n", api.MaxName)
	checkWords(t, long+"Z", "0 1 "+long+", 24 6 Z")
	checkWords(t, long+"-7", "0 1 "+long+", 24 3 -7")
	checkAt(t, "aD", 1, api.ErrText)
	checkAt(t, "aBc", 1, api.ErrText)
	checkAt(t, "a.1", 1, api.ErrText)
	checkAt(t, "a\u00e9", 1, api.ErrText)
	checkAt(t, "a\x00", 1, api.ErrText)
	checkAt(t, "a-b", 1, api.ErrText)
	checkAt(t, "a#b", 1, api.ErrText)
}

// P8.1: marks, one sign each.
func TestMarks(t *testing.T) {
	checkWords(t, "{", "0 5 {")
	checkWords(t, "}", "0 5 }")
	checkWords(t, ";", "0 5 ;")
	checkWords(t, "=", "0 5 =")
	checkWords(t, "{};=", "0 5 {, 1 5 }, 2 5 ;, 3 5 =")
	checkWords(t, "==;;", "0 5 =, 1 5 =, 2 5 ;, 3 5 ;")
	checkWords(t, "{a}1;M=", "0 5 {, 1 1 a, 2 5 }, 3 3 1, 4 5 ;, 5 6 M, 6 5 =")
}

// P8.1: bytes that begin no word.
func TestNoWord(t *testing.T) {
	begin := " \t\n\r{};=MLQCABZ0123456789abcdefghijklmnopqrstuvwxyz"
	for c := range 256 {
		if s := string([]byte{byte(c)}); strings.Contains(begin, s) {
			if _, err := Split(s); err != nil {
				t.Errorf("Split(%q): %v", s, err)
			}
		} else {
			checkAmiss(t, s)
		}
	}
	for _, s := range []string{"\u00e9", "\u00b2", "\u0660", "\u212a", "\u2028", "\uff21", "\U0001f600", "\xc3"} {
		checkAmiss(t, s)
		checkAt(t, "a"+s, 1, api.ErrText)
	}
	for _, s := range []string{"+1", ".5", ".", ",", "(a)", "'a'", "\"a\"", "*", "@", "$a", "%", "&", "!", "?", ":", "<", ">", "[", "]", "\\", "^", "`", "|", "~"} {
		checkAmiss(t, s)
	}
}

// P8.1: the first of several is told.
func TestFirstOfSeveral(t *testing.T) {
	checkAt(t, "? - #", 0, api.ErrText)
	checkAt(t, "1. ?", 0, api.ErrText)
	checkAt(t, "1 2. 3. ?", 2, api.ErrText)
	checkAt(t, "a #ff 1x", 2, api.ErrText)
	checkAt(t, "a 1x #ff", 2, api.ErrText)
	checkAt(t, "a 1x #ff\nM1 _", 2, api.ErrText)
	checkAt(t, "a; M1 "+strings.Repeat("a", 25), 3, api.ErrText)
	checkAt(t, "a; "+strings.Repeat("a", 25)+" M1", 3, api.ErrText)
}

// P8.1: as many bytes as may be, and one more, ahead of all else.
func TestLimit(t *testing.T) {
	checkWords(t, strings.Repeat(" ", api.MaxBytes), "")
	checkWords(t, "//"+strings.Repeat("?", api.MaxBytes-2), "")
	checkWords(t, strings.Repeat(" ", api.MaxBytes-1)+"M", "59999 6 M")
	checkAt(t, strings.Repeat(" ", api.MaxBytes-1)+"?", api.MaxBytes-1, api.ErrText)
	checkAt(t, strings.Repeat("a", api.MaxBytes), 0, api.ErrText)
	for _, s := range []string{" ", "?", "a", "1", "#", "/", "\n", ";", "//\n"} {
		checkAt(t, strings.Repeat(s, api.MaxBytes+1), api.MaxBytes, api.ErrLimit)
		checkAt(t, strings.Repeat(s, api.MaxBytes*3), api.MaxBytes, api.ErrLimit)
	}
	checkAt(t, strings.Repeat(" ", api.MaxBytes+1), 60000, api.ErrLimit)
	words, err := Split(strings.Repeat(";", api.MaxBytes))
	if err != nil || len(words) != api.MaxBytes {
		t.Fatal(len(words), err)
	}
	for at, w := range words {
		if w != (Word{Kind: Mark, Pos: at, Text: ";"}) {
			t.Fatal(at, w)
		}
	}
}

// P8.1
func TestIsName(t *testing.T) {
	for _, s := range []string{"a", "z", "ab", "a1", "a_", "a_9", "icons", "ico", "con", "iconat", "at_", "b2", strings.Repeat("z", api.MaxName), "a" + strings.Repeat("_", api.MaxName-1), "m", "evenodd0"} {
		if !IsName(s) {
			t.Errorf("%q is a name", s)
		}
	}
	wrong := append(strings.Fields(reserved), "", " ", " a", "a ", "a\n", "\ta", "\na", "a b", "a  ", "a//", "//a", "a//b", "a//\n", "a;", ";a", "a=", "a-1", "a#ff0000", "aB", "Ba", "A", "M", "Name", "1", "1a", "-a", "_", "_a", "#ff0000", "{", "a.b", "a\x00", "\x00a", "\u00e9", "a\u00e9", "\u00e9a", "\xff", "icon ", " icon", "icon at", "at;",
		strings.Repeat("z", api.MaxName+1), "a"+strings.Repeat("0", api.MaxName), strings.Repeat("z", 2*api.MaxName), strings.Repeat("z", api.MaxBytes+1), strings.Repeat("z", 1<<20))
	for _, s := range wrong {
		if IsName(s) {
			t.Errorf("%.80q is no name", s)
		}
	}
}

// P8.1: a name has a letter first, and then letters, digits, _.
func TestIsNameSigns(t *testing.T) {
	letters, others := "abcdefghijklmnopqrstuvwxyz", "0123456789_"
	for c := range 256 {
		s := string([]byte{byte(c)})
		if got, want := IsName(s), strings.Contains(letters, s); got != want {
			t.Errorf("%q: %v", s, got)
		}
		if got, want := IsName("q"+s+"q"), strings.Contains(letters+others, s); got != want {
			t.Errorf("q%qq: %v", s, got)
		}
	}
}
