package parse

import (
	"regexp"
	"slices"
	"strings"
	"testing"

	"glyphic/api"
	"glyphic/word"
)

// rule is a piece of the language as patterns over words, a sign each: of all that the piece may be, and of all that such a one may begin with.
type rule struct{ all, begun string }

// one is any of the words.
func one(words string) rule {
	sign := "["
	for _, w := range strings.Fields(words) {
		sign += regexp.QuoteMeta(signs[w])
	}
	return rule{all: sign + "]", begun: sign + "]?"}
}

// row is one piece behind the other.
func row(parts ...rule) rule {
	out := parts[len(parts)-1]
	for _, p := range slices.Backward(parts[:len(parts)-1]) {
		out = rule{all: p.all + out.all, begun: "(?:" + p.begun + "|" + p.all + out.begun + ")"}
	}
	return out
}

func either(parts ...rule) rule {
	var all, begun []string
	for _, p := range parts {
		all, begun = append(all, p.all), append(begun, p.begun)
	}
	return rule{all: "(?:" + strings.Join(all, "|") + ")", begun: "(?:" + strings.Join(begun, "|") + ")"}
}

func perhaps(p rule) rule { return rule{all: "(?:" + p.all + ")?", begun: p.begun} }

func many(p rule) rule {
	return rule{all: "(?:" + p.all + ")*", begun: "(?:" + p.all + ")*" + p.begun}
}

func times(n int, p rule) rule { return row(slices.Repeat([]rule{p}, n)...) }

// signs are those of words, by their own bytes; of kinds of words by their names.
var signs = map[string]string{
	"NAME": "n", "COLOR": "c", "QUARTERS": "0", "WHOLE": "4", "NUMBER": ".",
	"{": "{", "}": "}", ";": ";", "=": "=", "M": "M", "L": "L", "Q": "Q", "C": "C", "A": "A", "B": "B", "Z": "Z",
	"icon": "i", "scale": "s", "const": "k", "color": "o", "shape": "h", "fill": "f", "evenodd": "e", "nonzero": "z", "line": "l",
	"linear": "g", "radial": "r", "path": "p", "use": "u", "at": "t", "by": "y", "turn": "q",
}

// sign is that of a word.
func sign(w word.Word) string {
	switch w.Kind {
	case word.Name:
		return signs["NAME"]
	case word.Color:
		return signs["COLOR"]
	case word.Number:
		if strings.ContainsAny(w.Text, "-.") {
			return signs["NUMBER"]
		}
		if strings.Trim(w.Text[:len(w.Text)-1], "0") == "" && w.Text[len(w.Text)-1] <= '3' {
			return signs["QUARTERS"]
		}
		return signs["WHOLE"]
	}
	return signs[w.Text]
}

// language is the chapter's, as it stands there.
func language() rule {
	whole := one("QUARTERS WHOLE")
	number := one("QUARTERS WHOLE NUMBER")
	ref := one("NAME COLOR")
	val := one("NAME QUARTERS WHOLE NUMBER")
	step := either(row(one("M L A B"), times(2, val)), row(one("Q"), times(4, val)), row(one("C"), times(6, val)), one("Z"))
	items := many(either(
		row(one("path"), step, many(step), one(";")),
		row(one("use"), one("NAME"), one("at"), val, val, perhaps(row(one("by"), val)), perhaps(row(one("turn"), whole)), one(";"))))
	paint := either(ref, row(one("linear"), ref, ref, times(4, val)), row(one("radial"), ref, ref, times(3, val)))
	block := row(one("{"), items, one("}"))
	return row(
		row(one("icon"), whole, whole, perhaps(row(one("scale"), whole)), one(";")),
		many(either(
			row(one("const"), one("NAME"), one("="), number, one(";")),
			row(one("color"), one("NAME"), one("="), one("COLOR"), one(";")),
			row(one("shape"), one("NAME"), block),
			row(one("fill"), one("evenodd nonzero"), paint, block),
			row(one("line"), val, paint, block))))
}

// oracle says of a text, of less than the limits but for Turn, whether it may be, and where not.
type oracle struct {
	all, begun, turn *regexp.Regexp
}

func newOracle() oracle {
	l := language()
	begun := regexp.MustCompile(`^(?:` + l.begun + `)`)
	begun.Longest()
	return oracle{all: regexp.MustCompile(`^(?:` + l.all + `)$`), begun: begun, turn: regexp.MustCompile(signs["turn"] + signs["WHOLE"])}
}

// check holds what Src answers against the patterns; it tells whether s is a written icon.
func (o oracle) check(t *testing.T, s string) bool {
	t.Helper()
	words, err := word.Split(s)
	if err != nil {
		t.Fatalf("%q: %v", s, err)
	}
	text := ""
	for _, w := range words {
		text += sign(w)
	}
	good := len(o.begun.FindString(text))
	if turn := o.turn.FindStringIndex(text); turn != nil && turn[1] <= good {
		checkFault(t, s, words[turn[1]-1].Pos, api.ErrLimit)
		return false
	}
	switch {
	case good < len(words):
		checkFault(t, s, words[good].Pos, api.ErrText)
		return false
	case !o.all.MatchString(text):
		checkFault(t, s, len(s), api.ErrText)
		return false
	}
	checkTaken(t, s)
	return true
}

// eachWord is one word of each kind, and each Key, Mark and Step.
func eachWord() []string {
	all := []string{"n", "#0a0b0c", "#0a0b0c0d", "0", "3", "4", "-1", "2.0"}
	for w := range signs {
		if !slices.Contains([]string{"NAME", "COLOR", "QUARTERS", "WHOLE", "NUMBER"}, w) {
			all = append(all, w)
		}
	}
	slices.Sort(all)
	return all
}

// full has each of the language's pieces, with each that may be left out written and not.
const full = `icon 4 3 scale 2 ; const a = 1.5 ; color b = #ff0000 ; shape c { } shape d { path M 0 0 L -1 a Z ; use c at 0 a ; }
 fill nonzero b { path Z Z ; path Q a 1 -2 b C 1 2 3 a b c A a 1 B -2 0.5 ; use c at 1 1 by 2 ; use c at a a turn 3 ; use c at 0 0 by a turn 0 ; path Z ; }
 fill evenodd #010203 { } fill nonzero linear b #00ff0080 0 a -1 1.5 { path Z ; } line 2 radial b b a 1 2.5 { } line a b { use c at 0 0 ; } const z = -1 ; color y = #00000000 ; line 0.5 #000000 { }`

// P10.1: the text that the other tests begin with may be.
func TestFull(t *testing.T) {
	if !newOracle().check(t, full) {
		t.Error("it may not be")
	}
}

// P10.1: each text cut behind each of its words: ErrText around its length, blanks and remarks included, unless it may end there.
func TestCut(t *testing.T) {
	o := newOracle()
	words := strings.Fields(full)
	whole := 0
	for k := range words {
		s := strings.Join(words[:k], " ")
		may := o.check(t, s)
		if may {
			whole++
		} else {
			checkFault(t, s, len(s), api.ErrText)
		}
		for _, gap := range []string{" ", "\n\n", "// what follows ; }", " \t\r\n// ;\n  "} {
			if may {
				checkTaken(t, s+gap)
			} else {
				checkFault(t, s+gap, len(s+gap), api.ErrText)
			}
		}
	}
	if whole != 12 {
		t.Errorf("%d may end", whole)
	}
}

// P10.1: each word in the place of each other one, ahead of it; each left out, each twice, each with the one behind it.
func TestEachWordAtEachPlace(t *testing.T) {
	o := newOracle()
	words, may := strings.Fields(full), 0
	hold := func(changed []string) {
		t.Helper()
		if o.check(t, strings.Join(changed, " ")) {
			may++
		}
	}
	for k := range words {
		for _, w := range eachWord() {
			hold(slices.Concat(words[:k], []string{w}, words[k+1:]))
			hold(slices.Concat(words[:k], []string{w}, words[k:]))
		}
		hold(slices.Delete(slices.Clone(words), k, k+1))
		hold(slices.Insert(slices.Clone(words), k, words[k]))
		if k > 0 {
			swapped := slices.Clone(words)
			swapped[k-1], swapped[k] = swapped[k], swapped[k-1]
			hold(swapped)
		}
	}
	if may < 400 {
		t.Errorf("just %d may be", may)
	}
}

// P10.1: behind the least texts that come to each place, all rows of two words.
func TestPairsAtEachPlace(t *testing.T) {
	o := newOracle()
	for _, ahead := range []string{
		"", "icon", "icon 1", "icon 1 1", "icon 1 1 scale", "icon 1 1 scale 1", head,
		head + "const", head + "const a", head + "const a =", head + "const a = 1", head + "const a = 1;",
		head + "color", head + "color a", head + "color a =", head + "color a = #000000",
		head + "shape", head + "shape a", head + "shape a {", head + "shape a {}",
		head + "fill", head + "fill evenodd", head + "fill nonzero", head + "fill evenodd a",
		head + "fill evenodd linear", head + "fill evenodd linear a", head + "fill evenodd linear a b", head + "fill evenodd linear a b 1 2", head + "fill evenodd linear a b 1 2 3", head + "fill evenodd linear a b 1 2 3 4",
		head + "fill evenodd radial", head + "fill evenodd radial a", head + "fill evenodd radial a b 1", head + "fill evenodd radial a b 1 2", head + "fill evenodd radial a b 1 2 3",
		head + "line", head + "line a", head + "line a a", head + "line 1 a {", head + "line 1 linear", head + "line 1 radial",
		head + "line a a { path", head + "line a a { path M 1 1", head + "line a a { path M", head + "line a a { path Q 1 2", head + "line a a { path C 1 2 3 4", head + "line a a { path Z", head + "line a a { path Z ;",
		head + "line a a { use", head + "line a a { use a", head + "line a a { use a at", head + "line a a { use a at 1", head + "line a a { use a at 1 1", head + "line a a { use a at 1 1 by", head + "line a a { use a at 1 1 by 1", head + "line a a { use a at 1 1 turn", head + "line a a { use a at 1 1 turn 1", head + "line a a { use a at 1 1 by 1 turn 1",
	} {
		for _, a := range eachWord() {
			for _, b := range eachWord() {
				o.check(t, ahead+" "+a+" "+b)
			}
		}
	}
}
