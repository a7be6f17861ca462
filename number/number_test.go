package number

import (
	"math"
	"strings"
	"testing"

	"glyphic/api"
)

func checkNumber(t *testing.T, s string, want int64) {
	t.Helper()
	if n, err := Parse(s); n != want || err != nil {
		t.Errorf("Parse(%q): %d, %v, not %d", s, n, err, want)
	}
}

// checkWrong holds an answer of Parse against ErrText, itself and with no number beside it.
func checkWrong(t *testing.T, s string) {
	t.Helper()
	if n, err := Parse(s); n != 0 || err != api.ErrText {
		t.Errorf("Parse(%q): %d, %v, not an error of the text", s, n, err)
	}
}

func checkShown(t *testing.T, n int64, want string) {
	t.Helper()
	if s := Show(n); s != want {
		t.Errorf("Show(%d): %q, not %q", n, s, want)
	}
}

func checkWhole(t *testing.T, s string, want int) {
	t.Helper()
	if n, ok := Whole(s); n != want || !ok {
		t.Errorf("Whole(%q): %d, %v, not %d", s, n, ok, want)
	}
}

func checkNotWhole(t *testing.T, s string) {
	t.Helper()
	if n, ok := Whole(s); n != 0 || ok {
		t.Errorf("Whole(%q): %d, %v, not false", s, n, ok)
	}
}

// shown are numbers and their shortest texts, by hand.
func shown() []struct {
	n int64
	s string
} {
	return []struct {
		n int64
		s string
	}{
		{1500000, "1.5"}, // the document's example
		{0, "0"}, {1000000, "1"}, {-1000000, "-1"}, {9000000, "9"}, {10000000, "10"}, {-10000000, "-10"}, {42000000, "42"}, {100000000, "100"}, {123456000000, "123456"}, {-900000000000, "-900000"},
		{100000, "0.1"}, {10000, "0.01"}, {1000, "0.001"}, {100, "0.0001"}, {10, "0.00001"}, {1, "0.000001"},
		{-100000, "-0.1"}, {-10000, "-0.01"}, {-1000, "-0.001"}, {-100, "-0.0001"}, {-10, "-0.00001"}, {-1, "-0.000001"},
		{500000, "0.5"}, {-500000, "-0.5"}, {999999, "0.999999"}, {-999999, "-0.999999"}, {1000001, "1.000001"}, {-1000001, "-1.000001"},
		{1100000, "1.1"}, {1120000, "1.12"}, {1123000, "1.123"}, {1123400, "1.1234"}, {1123450, "1.12345"}, {1123456, "1.123456"},
		{-1500000, "-1.5"}, {10010000, "10.01"}, {-20030400, "-20.0304"}, {1000100, "1.0001"}, {100000100000, "100000.1"}, {7080900, "7.0809"}, {-123456654321, "-123456.654321"},
		{999999000000, "999999"}, {-999999000000, "-999999"}, {999999999990, "999999.99999"}, {999999999998, "999999.999998"},
		{999999999999, "999999.999999"}, {-999999999999, "-999999.999999"},
	}
}

// P9.1
func TestShow(t *testing.T) {
	for _, x := range shown() {
		checkShown(t, x.n, x.s)
	}
}

// P9.1: what Show wrote is read again.
func TestParseShown(t *testing.T) {
	for _, x := range shown() {
		checkNumber(t, x.s, x.n)
	}
}

// P9.1: noughts ahead and behind, and a `-` ahead of 0, are a Number's too.
func TestParseLonger(t *testing.T) {
	for s, want := range map[string]int64{
		"-0": 0, "00": 0, "000000": 0, "-000000": 0, "0.0": 0, "-0.0": 0, "0.000000": 0, "-000000.000000": 0,
		"01": 1000000, "000001": 1000000, "007": 7000000, "-012": -12000000, "099999": 99999000000, "010.5": 10500000,
		"1.0": 1000000, "1.000000": 1000000, "-3.00": -3000000, "1.50": 1500000, "1.500000": 1500000, "-1.50000": -1500000, "0.10": 100000, "000000.100000": 100000,
		"12.000000": 12000000, "000012.340000": 12340000, "-000000.000001": -1,
	} {
		checkNumber(t, s, want)
	}
}

// P9.1: one to six digits ahead of the point and behind it, not seven and not none.
func TestParseSizes(t *testing.T) {
	ahead := []int64{0, 1, 12, 123, 1234, 12345, 123456}
	behind := []int64{0, 900000, 980000, 987000, 987600, 987650, 987654}
	for a := range 9 {
		for b := range 9 {
			whole, s := "12345678"[:a], "12345678"[:a]+"."+"98765432"[:b]
			if a < 1 || a > 6 {
				checkWrong(t, whole)
				checkWrong(t, "-"+whole)
			} else {
				checkNumber(t, whole, ahead[a]*1000000)
				checkNumber(t, "-"+whole, -ahead[a]*1000000)
			}
			if a < 1 || a > 6 || b < 1 || b > 6 {
				checkWrong(t, s)
				checkWrong(t, "-"+s)
			} else {
				checkNumber(t, s, ahead[a]*1000000+behind[b])
				checkNumber(t, "-"+s, -ahead[a]*1000000-behind[b])
			}
		}
	}
}

// P9.1: the noughts count among the digits.
func TestParseTooManyNoughts(t *testing.T) {
	for _, s := range []string{"0000000", "0000001", "1000000", "-0000000", "0.0000000", "1.0000000", "1.5000000", "-1.0000001", "0000001.5", "0000000.0000000"} {
		checkWrong(t, s)
	}
}

// P9.1: signs where none may be, and points too many, too few or at an end.
func TestParseWrong(t *testing.T) {
	for _, s := range []string{
		"", "-", ".", "-.", "+", "1.", "-1.", "0.", ".5", "-.5", ".0", "..", "1..5", "1.5.", "1.5.5", ".1.5", "1.2.3.4",
		"--1", "--", "-+1", "+1", "+0", "+-1", "1-", "1-1", "1.-5", "1.5-", "-1.-5", "1.+5", "0-1", "- 1", "-1.5-",
		" 1", "1 ", " ", "1 .5", "1. 5", "1.5 ", " 1.5", "\t1", "1\n", "1\r", "1.5\n", "1 2", "\x001", "1\x00",
		"a", "1a", "a1", "1.a", "1.5a", "a.5", "1e3", "1E3", "1.5e1", "0x1", "0b1", "0o7", "1_0", "1_000", "1,5", "1/2", "1:", "1;", "#1", "1#", "inf", "nan", "-inf", "Infinity",
		"\u0661", "1\u0661", "1.\u0665", "\uff11", "\u22121", "1\u066b5", "1\u00b2", "\u00bd", "1\xff", "\xff", "1.\xff", "\xb1",
		"9223372036854775807", "-9223372036854775808", "1.9223372036854775808", strings.Repeat("1", 100), "1." + strings.Repeat("0", 100), strings.Repeat("-", 100),
	} {
		checkWrong(t, s)
	}
}

// P9.1: of all bytes just the digits are some, at each place of a number, and of a whole one.
func TestEveryByte(t *testing.T) {
	for n := range 256 {
		c := string([]byte{byte(n)})
		if n >= '0' && n <= '9' {
			d := int64(n - '0')
			checkNumber(t, c, d*1000000)
			checkNumber(t, "2"+c, (20+d)*1000000)
			checkNumber(t, c+"2", (10*d+2)*1000000)
			checkNumber(t, "2.3"+c, 2300000+d*10000)
			checkNumber(t, "2."+c+"3", 2030000+d*100000)
			checkNumber(t, "-"+c, -d*1000000)
			checkWhole(t, c, int(d))
			checkWhole(t, "2"+c+"3", 203+10*int(d))
			continue
		}
		for _, s := range []string{c, "2" + c, "2.3" + c, "2." + c + "3", "-" + c, "2" + c + ".3", "-2.3" + c} {
			checkWrong(t, s)
		}
		if n != '-' {
			checkWrong(t, c+"2")
		}
		if n != '.' {
			checkWrong(t, "2"+c+"3")
		}
		for _, s := range []string{c, "2" + c, c + "2", "2" + c + "3", "23456" + c, c + "23456"} {
			checkNotWhole(t, s)
		}
	}
}

// P9.1
func TestWhole(t *testing.T) {
	for s, want := range map[string]int{
		"0": 0, "1": 1, "9": 9, "10": 10, "12": 12, "123": 123, "1234": 1234, "12345": 12345, "123456": 123456, "100000": 100000, "999999": 999999, "654321": 654321,
		"00": 0, "000000": 0, "01": 1, "012": 12, "000001": 1, "000010": 10, "099999": 99999, "08": 8, "0777": 777,
	} {
		checkWhole(t, s, want)
	}
}

// P9.1: a sign, a point, more digits, other signs, and nothing at all.
func TestNotWhole(t *testing.T) {
	for _, s := range []string{
		"", "1234567", "0000000", "0000001", "1000000", "12345678", "18446744073709551617", strings.Repeat("1", 100),
		"-1", "-0", "+1", "+0", "-", "+", "--1", "1-", "1-2", "-123456", "-12345", "12345-",
		"1.0", "1.", ".1", ".", "0.0", "1.5", "12.345", "12345.", ".12345",
		" 1", "1 ", " ", "1\n", "\t1", "1 2", "a", "1a", "a1", "12a45", "1e3", "0x1", "1_0", "1,0", "#1", "\x00", "1\x00",
		"\u0661", "\uff11", "1\u00b2", "\xff", "1\xff",
	} {
		checkNotWhole(t, s)
	}
}

// P0.1: beyond its bounds Show ends and does not panic; what it then says is the number too.
func TestShowBeyond(t *testing.T) {
	for n, want := range map[int64]string{
		1000000000000: "1000000", -1000000000000: "-1000000", 1000000000001: "1000000.000001", -1000000000001: "-1000000.000001", 1234567800000000: "1234567800",
		math.MaxInt64: "9223372036854.775807", -math.MaxInt64: "-9223372036854.775807", math.MinInt64: "-9223372036854.775808",
	} {
		checkShown(t, n, want)
	}
}
