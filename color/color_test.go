package color

import (
	"encoding/hex"
	"strings"
	"testing"

	"glyphic/api"
)

// shown are colors and their texts, by hand.
func shown() []struct {
	c api.Color
	s string
} {
	return []struct {
		c api.Color
		s string
	}{
		{api.Color{R: 255, A: 255}, "#ff0000"}, // the document's example
		{api.Color{G: 255, A: 255}, "#00ff00"}, {api.Color{B: 255, A: 255}, "#0000ff"}, {api.Color{A: 255}, "#000000"}, {api.Color{R: 255, G: 255, B: 255, A: 255}, "#ffffff"},
		{api.Color{A: 254}, "#000000fe"}, {api.Color{R: 255, G: 255, B: 255, A: 254}, "#fffffffe"}, {api.Color{R: 255, G: 255, B: 255}, "#ffffff00"},
		{api.Color{}, "#00000000"}, {api.Color{R: 255}, "#ff000000"}, {api.Color{G: 255}, "#00ff0000"}, {api.Color{B: 255}, "#0000ff00"}, {api.Color{A: 1}, "#00000001"},
		{api.Color{R: 0x01, G: 0x23, B: 0x45, A: 0x67}, "#01234567"}, {api.Color{R: 0x89, G: 0xab, B: 0xcd, A: 0xef}, "#89abcdef"}, {api.Color{R: 0x0f, G: 0xf0, B: 0x9a, A: 0xa9}, "#0ff09aa9"},
	}
}

// checkWrong holds an answer of Parse against ErrText, itself and with no color beside it.
func checkWrong(t *testing.T, s string) {
	t.Helper()
	if c, err := Parse(s); c != (api.Color{}) || err != api.ErrText {
		t.Errorf("Parse(%q): %v, %v, not an error of the text", s, c, err)
	}
}

func checkColor(t *testing.T, s string, want api.Color) {
	t.Helper()
	if c, err := Parse(s); c != want || err != nil {
		t.Errorf("Parse(%q): %v, %v, not %v", s, c, err, want)
	}
}

// some are values of a part, at its ends, and where its digits change their kind.
func some() []uint8 {
	return []uint8{0, 1, 9, 10, 15, 16, 0x99, 0x9a, 0xa0, 0xaf, 127, 128, 0xf9, 254, 255}
}

// P3.1
func TestShow(t *testing.T) {
	for _, x := range shown() {
		if got := Show(x.c); got != x.s {
			t.Errorf("Show(%v): %s, not %s", x.c, got, x.s)
		}
	}
}

// P3.1
func TestParse(t *testing.T) {
	for _, x := range shown() {
		checkColor(t, x.s, x.c)
	}
	checkColor(t, "#010203ff", api.Color{R: 1, G: 2, B: 3, A: 255})
	checkColor(t, "#ff0000ff", api.Color{R: 255, A: 255})
	checkColor(t, "#ffffffff", api.Color{R: 255, G: 255, B: 255, A: 255})
	checkColor(t, "#000000ff", api.Color{A: 255})
}

// P3.1: each part is told by its own two digits, whatever the others are.
func TestEveryPart(t *testing.T) {
	for _, r := range some() {
		for _, g := range some() {
			for _, b := range some() {
				for n := range 256 {
					a := uint8(n)
					c := api.Color{R: r, G: g, B: b, A: a}
					long := "#" + hex.EncodeToString([]byte{r, g, b, a})
					want := long
					if a == 255 {
						want = long[:7]
					}
					if got := Show(c); got != want {
						t.Fatalf("Show(%v): %s, not %s", c, got, want)
					}
					checkColor(t, want, c)
					checkColor(t, long, c)
				}
			}
		}
	}
	for n := range 256 {
		v := uint8(n)
		for _, c := range []api.Color{{R: v, A: 255}, {G: v, A: 255}, {B: v, A: 255}, {R: v}, {G: v}, {B: v}} {
			checkColor(t, Show(c), c)
		}
	}
}

// P3.1: texts that are no colors.
func TestParseWrong(t *testing.T) {
	for _, s := range []string{
		"", "#", "f", "ff0000", "0ff0000", "$ff0000", "ff0000#", "ff0000ff", "0ff0000ff", "ff0000ff#",
		"#f", "#ff", "#fff", "#ffff", "#ff000", "#ff00000", "#ff0000000", "#ff00000000", "#ff000000ff0000ff",
		"#FF0000", "#fF0000", "#00000A", "#0000000F", "#ff0000FF", "##ff0000", "##ff000", "#ff000#",
		" #ff0000", "#ff0000 ", "#ff0000\n", "\n#ff0000", "#ff00 0", "# ff000", "#ff000\x00", "#ff0000\x00\x00", "#+f0000", "#-10000", "#0x0000", "#0_0000", "#1.0000", "#1e+000",
		"#gg0000", "#ff000g", "#g00000", "#0000000g", "#000000g0", "#ff0000zz", "red",
		"#ff00\u00e9", "#ff0\u20ac", "\uff030000", "\uff0300000", "#\uff11\uff12", "#\u0660\u0661\u0662", "\xff0000000", "#\xff\xff\xff\xff\xff\xff", "#0000000\x80",
	} {
		checkWrong(t, s)
	}
}

// P3.1: how many digits there are.
func TestParseCounts(t *testing.T) {
	for n := range 40 {
		for _, d := range []string{"0", "9", "a", "f"} {
			checkWrong(t, strings.Repeat(d, n))
			if n != 6 && n != 8 {
				checkWrong(t, "#"+strings.Repeat(d, n))
			}
		}
	}
	checkWrong(t, "#"+strings.Repeat("0", 1<<20))
}

// P3.1: at each place each byte but those that may stand there is refused.
func TestParseBytes(t *testing.T) {
	for _, right := range []string{"#123abc", "#123abc4d"} {
		for at := range len(right) {
			for n := range 256 {
				b := []byte(right)
				b[at] = byte(n)
				_, err := Parse(string(b))
				may := at > 0 && strings.IndexByte("0123456789abcdef", byte(n)) >= 0 || at == 0 && n == '#'
				if may != (err == nil) {
					t.Errorf("Parse(%q): %v", b, err)
				}
				if !may {
					checkWrong(t, string(b))
				}
			}
		}
	}
}

// P3.1
func TestWide(t *testing.T) {
	for _, x := range []struct {
		c    api.Color
		want [4]int64
	}{
		{api.Color{}, [4]int64{}},
		{api.Color{R: 255, G: 255, B: 255, A: 255}, [4]int64{65535, 65535, 65535, 65535}},
		{api.Color{R: 255, G: 1, B: 0, A: 128}, [4]int64{65535, 257, 0, 32896}},
		{api.Color{R: 1, G: 2, B: 3, A: 4}, [4]int64{257, 514, 771, 1028}},
		{api.Color{R: 127, G: 254, B: 16, A: 0}, [4]int64{32639, 65278, 4112, 0}},
	} {
		if got := Wide(x.c); got != x.want {
			t.Errorf("Wide(%v): %v, not %v", x.c, got, x.want)
		}
	}
	for n := range 256 {
		v, want := uint8(n), int64(n)<<8|int64(n)
		for i, c := range []api.Color{{R: v}, {G: v}, {B: v}, {A: v}} {
			var all [4]int64
			all[i] = want
			if got := Wide(c); got != all {
				t.Errorf("Wide(%v): %v, not %v", c, got, all)
			}
		}
	}
}
