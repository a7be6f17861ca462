package word

import (
	"fmt"
	"strings"
	"testing"

	"glyphic/api"
)

// follow are the signs that may not follow a Number or a Color.
func follow() []string {
	return []string{"g", "z", "A", "M", "Z", "D", "_", ".", "#"}
}

// some is a row of n digits.
func some(n int) string { return "90817263549081726354"[:n] }

// P8.1: Numbers of one to six digits, ahead of the point and behind it, with - and without; more or fewer are amiss.
func TestDigits(t *testing.T) {
	for _, sign := range []string{"", "-"} {
		for whole := range 10 {
			s := sign + some(whole)
			switch {
			case whole >= 1 && whole <= 6:
				checkOne(t, Number, s)
			case s != "":
				checkAmiss(t, s)
			}
			for part := range 10 {
				s := sign + some(whole) + "." + some(part)
				if whole >= 1 && whole <= 6 && part >= 1 && part <= 6 {
					checkOne(t, Number, s)
				} else {
					checkAmiss(t, s)
				}
			}
		}
	}
	checkAmiss(t, strings.Repeat("0", 5000))
	checkAmiss(t, "0."+strings.Repeat("0", 5000))
}

// P8.1: a Number stands as it is written.
func TestNumbers(t *testing.T) {
	for _, s := range []string{"0", "-0", "00", "007", "000000", "-000000.000000", "0.0", "1.50", "-0.5", "999999.999999", "-999999.999999", "0.000001"} {
		checkOne(t, Number, s)
	}
	for _, s := range []string{"-", "--", "--1", "-.5", "-a", "-M", "-#ff0000", "-;", "-//", "- 1", "-\n1", "-_", "1.", "1.;", "1. 5", "1.-5", "1.//", "1.\n5", "1..5", "1.x", "-1.", "1.#", "1._", "1.M", "0000001", "-1234567", "1.1234567", "1234567.1"} {
		checkAmiss(t, s)
	}
	for _, s := range []string{"1e5", "0x1f", "1_000", "1u"} {
		checkAmiss(t, s)
	}
	checkAt(t, "1,5", 1, api.ErrText)
	checkAt(t, "+5", 0, api.ErrText)
}

// P8.1: what may follow a Number at once, and what may not.
func TestNumberEnds(t *testing.T) {
	for _, s := range []string{"1", "-1", "123456", "-123456", "0.5", "-0.5", "123456.123456", "-123456.654321"} {
		for _, c := range follow() {
			checkAmiss(t, s+c)
			checkAmiss(t, s+c+"x")
		}
		checkAmiss(t, s+"#ff0000")
		n := len(s)
		checkWords(t, s+"-2", fmt.Sprintf("0 3 %s, %d 3 -2", s, n))
		checkWords(t, s+";", fmt.Sprintf("0 3 %s, %d 5 ;", s, n))
		checkWords(t, s+"//.", "0 3 "+s)
		checkWords(t, s+" a", fmt.Sprintf("0 3 %s, %d 1 a", s, n+1))
		checkAt(t, s+" .5", n+1, api.ErrText)
		checkAt(t, s+"-", n, api.ErrText)
		checkAt(t, s+"-.5", n, api.ErrText)
		checkAt(t, s+"?", n, api.ErrText)
		checkAt(t, s+"/", n, api.ErrText)
		// A byte of no letter a to z, A to Z is none.
		checkAt(t, s+"\u00e9", n, api.ErrText)
	}
	checkAmiss(t, "1.5.5")
	checkAmiss(t, "1.5.")
	checkWords(t, "1-2-3.5-4", "0 3 1, 1 3 -2, 3 3 -3.5, 7 3 -4")
}

// P8.1: Colors of six and of eight digits; others are amiss.
func TestColorDigits(t *testing.T) {
	for n := range 20 {
		for _, digits := range []string{"0123456789abcdef0123", "fedcba98765432100123", strings.Repeat("f", 20), strings.Repeat("0", 20)} {
			s := "#" + digits[:n]
			if n == 6 || n == 8 {
				checkOne(t, Color, s)
			} else {
				checkAmiss(t, s)
			}
		}
	}
	checkAmiss(t, "#"+strings.Repeat("0", 5000))
}

// P8.1: each digit of a Color, at each place, is 0 to 9 or a to f.
func TestColorSigns(t *testing.T) {
	for c := range 256 {
		digit := strings.Contains("0123456789abcdef", string([]byte{byte(c)}))
		for _, n := range []int{6, 8} {
			for k := 1; k <= n; k++ {
				s := []byte("#" + strings.Repeat("0", n))
				s[k] = byte(c)
				switch {
				case digit:
					checkWords(t, string(s), "0 4 "+string(s))
				case k != 7: // ahead of place 7 are six digits, a Color of its own
					checkAt(t, string(s), 0, api.ErrText)
				}
			}
		}
	}
	for _, s := range []string{"#FF0000", "#fF0000", "#ff000F", "#ff00000F", "#ABCDEF01", "#ff000g", "#ff000", "#ff 000", "#-ff000", "#ff0.00", "##ff000", "#", "#;", "# ff0000", "#//"} {
		checkAmiss(t, s)
	}
}

// P8.1: what may follow a Color at once, and what may not.
func TestColorEnds(t *testing.T) {
	for _, s := range []string{"#ff0000", "#0a0b0c0d"} {
		for _, c := range follow() {
			checkAmiss(t, s+c)
			checkAmiss(t, s+c+"0")
		}
		checkAmiss(t, s+s)
		checkAmiss(t, s+"0")
		n := len(s)
		checkWords(t, s+"-1", fmt.Sprintf("0 4 %s, %d 3 -1", s, n))
		checkWords(t, s+";", fmt.Sprintf("0 4 %s, %d 5 ;", s, n))
		checkWords(t, s+"{", fmt.Sprintf("0 4 %s, %d 5 {", s, n))
		checkWords(t, s+"//#", "0 4 "+s)
		checkAt(t, s+"-", n, api.ErrText)
		checkAt(t, s+"?", n, api.ErrText)
		checkAt(t, s+"\u00e9", n, api.ErrText)
	}
}

// P8.1: the letters of steps, that no letter, digit, _ follows.
func TestSteps(t *testing.T) {
	for c := 'A'; c <= 'Z'; c++ {
		s := string(c)
		if !strings.Contains("MLQCABZ", s) {
			checkAmiss(t, s)
			continue
		}
		checkOne(t, Step, s)
		for _, next := range []string{"a", "z", "m", "A", "Z", "D", s, "0", "1", "9", "_"} {
			checkAmiss(t, s+next)
			checkAmiss(t, s+next+" 1")
		}
		checkWords(t, s+"-1", "0 6 "+s+", 1 3 -1")
		checkWords(t, s+"#ff0000", "0 6 "+s+", 1 4 #ff0000")
		checkWords(t, s+";"+s, "0 6 "+s+", 1 5 ;, 2 6 "+s)
		checkWords(t, s+" "+s, "0 6 "+s+", 2 6 "+s)
		checkWords(t, s+"//1", "0 6 "+s)
		checkAt(t, s+".5", 1, api.ErrText)
		checkAt(t, s+"?", 1, api.ErrText)
		checkAt(t, s+"\u00e9", 1, api.ErrText)
		checkAt(t, "a"+s+"1", 1, api.ErrText)
	}
	checkAt(t, "M-1-2L3 4Z;", 3, api.ErrText)
	checkWords(t, "M-1-2 L 3 4 Z;", "0 6 M, 1 3 -1, 3 3 -2, 6 6 L, 8 3 3, 10 3 4, 12 6 Z, 13 5 ;")
}
