package number

import (
	"math/big"
	"regexp"
	"slices"
	"strconv"
	"strings"
	"testing"
	"unsafe"
)

// oracle is chapter 9 by other means: patterns, and fractions without bounds.
type oracle struct{ number, whole *regexp.Regexp }

func newOracle() oracle {
	return oracle{number: regexp.MustCompile(`\A-?[0-9]{1,6}(\.[0-9]{1,6})?\z`), whole: regexp.MustCompile(`\A[0-9]{1,6}\z`)}
}

// check holds what Parse and Whole answer against the patterns.
func (o oracle) check(t *testing.T, s string) {
	t.Helper()
	if o.number.MatchString(s) {
		checkNumber(t, s, millions(t, s))
	} else {
		checkWrong(t, s)
	}
	if o.whole.MatchString(s) {
		n, err := strconv.Atoi(s)
		if err != nil {
			t.Fatal(err)
		}
		checkWhole(t, s, n)
	} else {
		checkNotWhole(t, s)
	}
}

// millions is what s says, a million times.
func millions(t *testing.T, s string) int64 {
	t.Helper()
	r, ok := new(big.Rat).SetString(s)
	if !ok {
		t.Fatalf("%q is no fraction", s)
	}
	r.Mul(r, big.NewRat(1000000, 1))
	if !r.IsInt() {
		t.Fatalf("%q has more than six digits", s)
	}
	return r.Num().Int64()
}

// checkBack holds what Show says of n against n, and has Parse read it again.
func (o oracle) checkBack(t *testing.T, n int64) {
	t.Helper()
	s := Show(n)
	if !o.number.MatchString(s) || millions(t, s) != n {
		t.Fatalf("Show(%d): %q", n, s)
	}
	checkNumber(t, s, n)
	digits, minus := strings.CutPrefix(s, "-")
	if minus != (n < 0) || len(digits) > 1 && digits[0] == '0' && digits[1] != '.' {
		t.Errorf("Show(%d): %q, with more ahead than it takes", n, s)
	}
	if strings.Contains(s, ".") && (s[len(s)-1] == '0' || s[len(s)-1] == '.') {
		t.Errorf("Show(%d): %q, with more behind than it takes", n, s)
	}
}

// draw gives numbers that look like any, the same ones each time.
type draw struct{ state uint64 }

func (d *draw) below(n int64) int64 {
	d.state = d.state*6364136223846793005 + 1442695040888963407
	high := d.state >> 32
	d.state = d.state*6364136223846793005 + 1442695040888963407
	return int64((high<<31 | d.state>>33) % uint64(n))
}

// P9.1: all texts of up to five out of the signs that numbers are made of, and one that they are not.
func TestShortTexts(t *testing.T) {
	o := newOracle()
	texts := []string{""}
	for range 6 {
		var longer []string
		for _, s := range texts {
			o.check(t, s)
			for _, c := range "09-. " {
				longer = append(longer, s+string(c))
			}
		}
		texts = longer
	}
}

// P9.1, P0.1: drawn texts, of which many are numbers or nearly so.
func TestDrawnTexts(t *testing.T) {
	o, d := newOracle(), &draw{1}
	pieces := []string{"", "0", "7", "00", "12", "345", "9999", "-", ".", "a", " ", "+"}
	for range 30000 {
		var s strings.Builder
		for range d.below(7) {
			s.WriteString(pieces[d.below(int64(len(pieces)))])
		}
		o.check(t, s.String())
	}
}

// P9.1: what Show says is the number, in as few signs as say it, and is read again.
func TestDrawnNumbers(t *testing.T) {
	o, d := newOracle(), &draw{2}
	for range 20000 {
		n := d.below(1000000000000)
		for range d.below(12) {
			n /= 10
		}
		noughts := []int64{1, 10, 100, 1000, 10000, 100000, 1000000}[d.below(7)]
		n -= n % noughts
		o.checkBack(t, n)
		o.checkBack(t, -n)
	}
}

// P9.1: every number of less than one unit on either side of 0, and every whole one.
func TestAllParts(t *testing.T) {
	digits := func(n int) string { return strconv.Itoa(1000000 + n)[1:] }
	for n := range 1000000 {
		short := strings.TrimRight("0."+digits(n), "0")
		if n == 0 {
			short = "0"
		}
		checkShown(t, int64(n), short)
		checkNumber(t, "0."+digits(n), int64(n))
		checkWhole(t, digits(n), n)
		if n > 0 {
			checkShown(t, int64(-n), "-"+short)
			checkShown(t, int64(n)*1000000, strconv.Itoa(n))
			checkShown(t, int64(-n)*1000000, strconv.Itoa(-n))
		}
		if t.Failed() {
			return
		}
	}
}

// P0.4, P0.5: nothing that is handed in is changed, or read behind its length, and the same is answered again.
func TestMemory(t *testing.T) {
	for _, s := range []string{"1", "-1.5", "123456", "123456.654321", "1.", "-", "12a"} {
		room := []byte(s + "789.5")
		before := slices.Clone(room)
		in := unsafe.String(&room[0], len(s))
		n, err := Parse(in)
		w, ok := Whole(in)
		for _, behind := range []string{"00000", ".5.5.", "\x00\xff  -"} {
			copy(room[len(s):], behind)
			if n1, err1 := Parse(in); n1 != n || err1 != err {
				t.Errorf("Parse(%q) ahead of %q: %d, %v, not %d, %v", s, behind, n1, err1, n, err)
			}
			if w1, ok1 := Whole(in); w1 != w || ok1 != ok {
				t.Errorf("Whole(%q) ahead of %q: %d, %v, not %d, %v", s, behind, w1, ok1, w, ok)
			}
			if string(room) != s+behind {
				t.Errorf("%q was changed to %q", s+behind, room)
			}
		}
		copy(room, before)
		newOracle().check(t, in)
	}
}
