package word

import (
	"regexp"
	"slices"
	"strings"
	"testing"
	"unsafe"

	"glyphic/api"
)

// grammar is the words of chapter 8 as patterns: what lies between words, and what each kind has to be, with what may not follow it.
type grammar struct {
	between *regexp.Regexp
	kinds   []*regexp.Regexp // by Kind, from 1
}

func newGrammar() grammar {
	return grammar{
		between: regexp.MustCompile(`^(?s:[ \t\n\r]|//[^\n]*)*`),
		kinds: []*regexp.Regexp{
			nil,
			regexp.MustCompile(`^([a-z][a-z0-9_]{0,23})(?:[^a-z0-9_]|$)`),
			regexp.MustCompile(`^(` + strings.ReplaceAll(reserved, " ", "|") + `)(?:[^a-z0-9_]|$)`),
			regexp.MustCompile(`^(-?[0-9]{1,6}(?:\.[0-9]{1,6})?)(?:[^A-Za-z0-9_.#]|$)`),
			regexp.MustCompile(`^(#(?:[0-9a-f]{6}|[0-9a-f]{8}))(?:[^A-Za-z0-9_.#]|$)`),
			regexp.MustCompile(`^([{};=])`),
			regexp.MustCompile(`^([MLQCABZ])(?:[^A-Za-z0-9_]|$)`),
		},
	}
}

// word is what s begins with; a Key, which would be a Name too, by its greater kind.
func (g grammar) word(s string) (kind, size int) {
	for k := 1; k < len(g.kinds); k++ {
		if m := g.kinds[k].FindStringSubmatch(s); m != nil {
			kind, size = k, len(m[1])
		}
	}
	return kind, size
}

// split is the words of s, and the place where there is none, -1 if there are words up to the end.
func (g grammar) split(s string) ([]Word, int) {
	var words []Word
	for at := 0; ; {
		at += len(g.between.FindString(s[at:]))
		if at == len(s) {
			return words, -1
		}
		kind, size := g.word(s[at:])
		if kind == 0 {
			return nil, at
		}
		words = append(words, Word{Kind: kind, Pos: at, Text: s[at : at+size]})
		at += size
	}
}

// check holds what Split and IsName answer against the patterns.
func (g grammar) check(t *testing.T, s string) {
	t.Helper()
	if words, pos := g.split(s); pos >= 0 {
		checkAt(t, s, pos, api.ErrText)
	} else {
		checkWords(t, s, told(words))
	}
	kind, size := g.word(s)
	if got, want := IsName(s), kind == Name && size == len(s); got != want {
		t.Errorf("IsName(%q): %v", s, got)
	}
}

// draw gives numbers that look like any, the same ones each time.
type draw struct{ state uint64 }

func (d *draw) below(n int) int {
	d.state = d.state*6364136223846793005 + 1442695040888963407
	return int(d.state >> 33 % uint64(n))
}

// text is n of the pieces, one behind the other.
func (d *draw) text(pieces []string, n int) string {
	var out strings.Builder
	for range n {
		out.WriteString(pieces[d.below(len(pieces))])
	}
	return out.String()
}

// pieces are such that their neighbors may come to words, right or amiss.
func pieces() []string {
	return append(strings.Fields(reserved), "a", "f", "z", "x1", "_", "0", "9", "12", "123456", "1.5", "-", "-1", ".", "#", "#ff0000", "#0a0b0c0d", "{", "}", ";", "=", "M", "L", "Q", "C", "A", "B", "Z", "D", "F", " ", "  ", "\t", "\n", "\r", "/", "//", "// a\n", "?", "\x00", "\u00e9", "\xff")
}

// P8.1: all texts of up to three signs of those that begin, end or are words.
func TestShortTexts(t *testing.T) {
	g := newGrammar()
	signs := strings.Split("a f z _ 0 9 - . # { = M D / \n ? \xff", " ")
	signs = append(signs, " ")
	for _, x := range signs {
		g.check(t, x)
		for _, y := range signs {
			g.check(t, x+y)
			for _, z := range signs {
				g.check(t, x+y+z)
			}
		}
	}
}

// P8.1, P0.1: drawn texts, most of them amiss somewhere.
func TestDrawn(t *testing.T) {
	g := newGrammar()
	d := &draw{1}
	for range 20000 {
		g.check(t, d.text(pieces(), d.below(8)))
	}
}

// P8.1: drawn texts of right words with gaps between, so that long ones are gone through to their ends.
func TestDrawnRight(t *testing.T) {
	g := newGrammar()
	d := &draw{2}
	right := append(strings.Fields(reserved), "a", "z_9", "abcdefghijklmnopqrstuvwx", "0", "-1", "123456.654321", "-0.5", "#ff0000", "#0a0b0c0d", "{", "}", ";", "=", "M", "L", "Q", "C", "A", "B", "Z")
	gaps := []string{" ", "\t", "\n", "\r\n", "//\n", "// a ? #\n", "  //\r\n"}
	for range 300 {
		var s string
		n := d.below(60)
		for range n {
			s += d.text(right, 1) + d.text(gaps, 1+d.below(3))
		}
		if words, err := Split(s); err != nil || len(words) != n {
			t.Errorf("Split(%q): %d words, %v, not %d", s, len(words), err, n)
		}
		g.check(t, s)
	}
}

// P0.1: bytes of all kinds.
func TestNonsense(t *testing.T) {
	g := newGrammar()
	d := &draw{3}
	for range 3000 {
		b := make([]byte, d.below(12))
		for i := range b {
			b[i] = byte(d.below(256))
		}
		g.check(t, string(b))
	}
}

// P0.4: each list handed out is new memory, its spare room too.
func TestHandedOut(t *testing.T) {
	for n := range 40 {
		s := strings.Repeat("a M 1;", n)
		one, _ := Split(s)
		two, _ := Split(s)
		want := told(two)
		for i := range one[:cap(one)] {
			one[:cap(one)][i] = Word{Kind: 77}
		}
		three, _ := Split(s)
		if told(two) != want || told(three) != want {
			t.Errorf("%d: %s, %s, not %s", n, told(two), told(three), want)
		}
	}
}

// P0.4: a word's bytes are none of the memory that was handed in, nor of another word.
func TestKept(t *testing.T) {
	b := []byte("icon 1 #ff0000 a_b { M a_b")
	words, err := Split(unsafe.String(&b[0], len(b)))
	copy(b, strings.Repeat("?", len(b)))
	if want := "0 2 icon, 5 3 1, 7 4 #ff0000, 15 1 a_b, 19 5 {, 21 6 M, 23 1 a_b"; err != nil || told(words) != want {
		t.Errorf("%s, %v, not %s", told(words), err, want)
	}
}

// P0.4: what is handed in stays as it is, and what lies behind its length is not read.
func TestHandedIn(t *testing.T) {
	text := []byte("a1 -1.55 #ff000011 M// b\nicon")
	for k := range text {
		b := slices.Clone(text)
		room, err := Split(unsafe.String(&b[0], k))
		own, wrong := Split(string(text[:k]))
		if told(room) != told(own) || (err == nil) != (wrong == nil) || err != nil && err.Error() != wrong.Error() {
			t.Errorf("%q: %s, %v, not %s, %v", text[:k], told(room), err, told(own), wrong)
		}
		if IsName(unsafe.String(&b[0], k)) != IsName(string(text[:k])) {
			t.Errorf("IsName(%q)", text[:k])
		}
		if !slices.Equal(b, text) {
			t.Errorf("%q: written into: %q", text[:k], b)
		}
	}
}

// P0.5: the same text is the same words, or the same error, each time.
func TestAgain(t *testing.T) {
	d := &draw{4}
	for range 500 {
		s := d.text(pieces(), d.below(6))
		one, err := Split(s)
		Split("a ?")
		two, again := Split(s)
		if told(one) != told(two) || (err == nil) != (again == nil) || err != nil && err.Error() != again.Error() {
			t.Errorf("%q: %s, %v, then %s, %v", s, told(one), err, told(two), again)
		}
	}
}
