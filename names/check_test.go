package names

import (
	"fmt"
	"slices"
	"strings"
	"testing"

	"glyphic/api"
)

// decl has two names of each kind for the texts behind it.
const decl = head + "const a=1;const b=2;color k=#000000;color l=#010203;shape s{}shape t{}"

// checkText holds Check of decl and s against what is told, at a place of s.
func checkText(t *testing.T, s string, pos int, want error) {
	t.Helper()
	if err := Check(read(t, decl+s)); !isFault(err, len(decl)+pos, want) {
		t.Errorf("%q: %v, not %v at %d", s, err, want, len(decl)+pos)
	}
}

// P12.2: a name that is nobody's at each place, in shapes and in commands, in each kind of command, paint and step.
func TestEachPlace(t *testing.T) {
	for _, s := range []string{
		"line ^a k{}", "line 1 ^k{}", "fill evenodd ^k{}", "fill nonzero ^k{}",
		"line 1 linear ^k l a b 1 2{}", "line 1 linear k ^l a b 1 2{}", "line 1 linear k l ^a b 1 2{}", "line 1 linear k l a ^b 1 2{}", "line 1 linear k l a b ^a 2{}", "line 1 linear k l a b 1 ^b{}",
		"fill evenodd linear ^k k 1 1 a a{}", "fill evenodd linear #000000 ^k 1 1 a a{}", "fill evenodd linear k k ^a 1 1 1{}", "fill evenodd linear k k 1 1 1 ^a{}",
		"line 1 radial ^k l a b 1{}", "line 1 radial k ^l a b 1{}", "line 1 radial k l ^a b 1{}", "line 1 radial k l a ^b 1{}", "line 1 radial k l a b ^a{}", "fill nonzero radial k #000000 1 1 ^a{}",
		"shape u{path M ^a b;}", "shape u{path M a ^b;}", "shape u{path L ^a b;}", "shape u{path L a ^b;}", "shape u{path A ^a b;}", "shape u{path A a ^b;}", "shape u{path B ^a b;}", "shape u{path B a ^b;}",
		"shape u{path Q ^a b a b;}", "shape u{path Q a ^b a b;}", "shape u{path Q a b ^a b;}", "shape u{path Q a b a ^b;}",
		"shape u{path C ^a b a b a b;}", "shape u{path C a ^b a b a b;}", "shape u{path C a b ^a b a b;}", "shape u{path C a b a ^b a b;}", "shape u{path C a b a b ^a b;}", "shape u{path C a b a b a ^b;}",
		"shape u{path M 0 0 Z L 1 ^a;}", "shape u{path M 0 0;path M 0 ^a;}", "shape u{use s at 0 0;path M 0 ^a;}", "shape u{path Z Z B 1 ^a;}",
		"shape u{use s at ^a b by a;}", "shape u{use s at a ^b by a;}", "shape u{use s at a b by ^a;}", "shape u{use s at a b by ^a turn 3;}", "shape u{use s at 1 ^a;}", "shape u{path Z;use s at 0 0;use t at ^a 0;}",
		"shape u{~s at a b;}", "shape u{~t at 1 1 by 2 turn 2;}", "shape u{path M 0 0;~t at a b by a;}", "shape u{use s at 1 1;~t at a b by a;}",
		"shape u{}shape v{path M 0 ^a;}", "shape u{}shape v{~s at 0 a;}", "shape u{}shape v{use u at 0 ^a;}",
	} {
		cut := strings.IndexAny(s, "^~")
		checkText(t, strings.ReplaceAll(strings.ReplaceAll(s, "^", ""), "~", "use "), 0, nil)
		wrong := "nobody"
		if s[cut] == '~' {
			wrong = "use nobody"
		}
		broken := s[:cut] + wrong + s[cut+2:]
		checkText(t, broken, cut, api.ErrName)
		// The same items in a command.
		if items, ok := strings.CutPrefix(broken, "shape u{"); ok && strings.HasSuffix(items, "}") && !strings.Contains(items, "{") {
			checkText(t, "line 1 k{"+items, cut+1, api.ErrName)
			checkText(t, "fill evenodd linear k l 1 1 a b{path M a b;"+items, cut+35, api.ErrName)
		}
	}
}

// P12.2: just the names of its own kind are somebody's: vals are consts', refs colors', uses shapes'.
func TestKinds(t *testing.T) {
	for _, c := range []struct {
		s   string
		pos int
	}{
		{"line k k{}", 5}, {"line s k{}", 5}, {"line a a{}", 7}, {"line a s{}", 7}, {"fill evenodd linear k a 1 1 1 1{}", 22}, {"fill evenodd linear k l 1 1 k 1{}", 28},
		{"line 1 k{path M k a;}", 16}, {"line 1 k{path M s a;}", 16}, {"line 1 k{use a at 1 1;}", 9}, {"line 1 k{use k at 1 1;}", 9}, {"line 1 k{use s at k 1;}", 18}, {"line 1 k{use s at 1 1 by s;}", 25},
		{"shape u{use a at 1 1;}", 8}, {"shape u{use k at 1 1;}", 8}, {"shape u{use s at 1 l;}", 19}, {"shape u{path L t 1;}", 15},
	} {
		checkText(t, c.s, c.pos, api.ErrName)
	}
}

// P12.2: a shape may use those that stand ahead of it alone; a command may use all, those behind it too.
func TestShapesAhead(t *testing.T) {
	const count = 5
	for user := range count {
		for used := range count {
			s, pos := head, 0
			for k := range count {
				s += fmt.Sprintf("shape s%d{", k)
				if k == user {
					s += "path Z;"
					pos = len(s)
					s += fmt.Sprintf("use s%d at 0 0;", used)
				}
				s += "}"
			}
			want := api.ErrName
			if used < user {
				want = nil
			}
			if err := Check(read(t, s)); !isFault(err, pos, want) {
				t.Errorf("%s: %v", s, err)
			}
		}
	}
	for _, s := range []string{
		"shape u{use s at 0 0;}shape v{use u at 0 0;use s at 0 0;use u at 0 0;}line 1 k{use v at 0 0;use s at 0 0;}",
		"line 1 k{use v at 0 0;use u at 0 0;}shape u{}fill evenodd l{use v at 0 0;}shape v{use u at 0 0;}",
	} {
		checkText(t, s, 0, nil)
	}
	checkText(t, "shape u{use v at 0 0;}shape v{use s at 0 0;}line 1 k{use u at 0 0;}", 8, api.ErrName)
	checkText(t, "line 1 k{use u at 0 0;}shape u{use u at 0 0;}", 31, api.ErrName)
}

// pattern has each place where a name may be, as a sign: $ a const's, % a color's, & a shape's; shapes and commands stand mixed, and ahead of the names.
const pattern = `icon 9 9 ;
line $ linear % % $ $ $ $ { path M $ $ ; use & at $ $ by $ ; path Z L $ 1 ; }
shape s { path M $ $ L $ $ Q $ $ $ $ C $ $ $ $ $ $ A $ $ B $ $ Z ; }
fill evenodd % { use & at $ $ ; use & at $ 2 turn 1 ; }
shape t { use & at $ $ by $ ; path M $ $ Z L $ $ ; use & at $ $ ; }
line $ % { }
color k = #000000 ; const a = 1 ;
fill nonzero radial % % $ $ $ { path L $ $ ; path A $ $ B $ $ ; }
shape u { path Z ; use & at 1 1 by $ turn 2 ; }
line 1 #000000 { use & at 0 $ by 1 ; path Z ; }`

// place is one of a sign of pattern: the words' number; the names that are nobody's there.
type place struct {
	word  int
	shape bool // in a shape, and so ahead of all commands
	wrong []string
}

// places are those of pattern, in the chapter's order.
func places(words []string) []place {
	var all []place
	shape := false
	for k, w := range words {
		switch w {
		case "shape", "line", "fill":
			shape = w == "shape"
		case "$":
			all = append(all, place{k, shape, []string{"nobody", "k", "s", "aa"}})
		case "%":
			all = append(all, place{k, shape, []string{"nobody", "a", "s", "kk"}})
		case "&":
			all = append(all, place{k, shape, []string{"nobody", "a", "k", "ss"}})
			if shape {
				all[len(all)-1].wrong[3] = "u" // no shape of the pattern has it ahead
			}
		}
	}
	slices.SortStableFunc(all, func(a, b place) int {
		if a.shape == b.shape {
			return 0
		}
		if a.shape {
			return -1
		}
		return 1
	})
	return all
}

// written is the pattern with these names (by their words) in place of the signs, and where the word is that is told of: the `use` of a shape's name.
func written(words []string, names map[int]string, told int) (string, int) {
	if words[told] == "&" {
		told--
	}
	s, pos := "", 0
	for k, w := range words {
		if k == told {
			pos = len(s)
		}
		switch name, ok := names[k]; {
		case ok:
			w = name
		case w == "$":
			w = "a"
		case w == "%":
			w = "k"
		case w == "&":
			w = "s"
		}
		s += w + " "
	}
	return s, pos
}

// P12.2: one name that is nobody's, at each place; two, at each pair of places: the first in the chapter's order is told.
func TestOrder(t *testing.T) {
	words := strings.Fields(pattern)
	all := places(words)
	if len(all) != 66 {
		t.Errorf("%d places", len(all))
	}
	s, _ := written(words, nil, 0)
	if err := Check(read(t, s)); err != nil {
		t.Error(s, err)
	}
	for i, first := range all {
		for _, wrong := range first.wrong {
			s, pos := written(words, map[int]string{first.word: wrong}, first.word)
			if err := Check(read(t, s)); !isFault(err, pos, api.ErrName) {
				t.Errorf("%s: %v, not at %d", s, err, pos)
			}
		}
		for _, second := range all[i+1:] {
			s, pos := written(words, map[int]string{first.word: "nobody", second.word: "noone"}, first.word)
			if err := Check(read(t, s)); !isFault(err, pos, api.ErrName) {
				t.Errorf("%s: %v, not at %d", s, err, pos)
			}
		}
		s, _ := written(words, map[int]string{first.word: "nobody"}, first.word)
		for _, twice := range []string{"const a = 1 ;", "color k = #000000 ;", "shape t { }"} {
			if err := Check(read(t, s+twice)); !isFault(err, len(s)+6, api.ErrTwice) {
				t.Errorf("%s: %v", s+twice, err)
			}
			if _, err := New(read(t, s)); err != nil {
				t.Errorf("%s: %v", s, err)
			}
		}
	}
}

// P12.2: a name that is nobody's at all places at once: the first of the shapes; without it, the next, and so on.
func TestAllAmiss(t *testing.T) {
	words := strings.Fields(pattern)
	all := places(words)
	names := map[int]string{}
	for _, p := range all {
		names[p.word] = "nobody"
	}
	for _, p := range all {
		s, pos := written(words, names, p.word)
		if err := Check(read(t, s)); !isFault(err, pos, api.ErrName) {
			t.Errorf("%s: %v, not at %d", s, err, pos)
		}
		delete(names, p.word)
	}
}
