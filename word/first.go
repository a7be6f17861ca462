package word

import (
	"strings"

	"glyphic/api"
)

const (
	blanks    = " \t\n\r"
	marks     = "{};="
	steps     = "MLQCABZ"
	maxDigits = 6 // of a Number, ahead of its point, and behind it
	narrow    = 6 // digits of a Color without alpha
	wide      = 8 // and with it
)

// gap is how many bytes of blanks and remarks s begins with.
func gap(s string) int {
	at := 0
	for at < len(s) {
		switch {
		case strings.IndexByte(blanks, s[at]) >= 0:
			at++
		case strings.HasPrefix(s[at:], "//"):
			at += remark(s[at:])
		default:
			return at
		}
	}
	return at
}

// remark is how many bytes there are ahead of the end of s's first line.
func remark(s string) int {
	if end := strings.IndexByte(s, '\n'); end >= 0 {
		return end
	}
	return len(s)
}

// first is the word that s begins with, and its size: 0, if there is none or
// it is not as it has to be.
func first(s string) (kind, size int) {
	if s == "" {
		return 0, 0
	}
	switch c := s[0]; {
	case isSmall(c):
		size = nameSize(s)
		if isReserved(s[:size]) {
			return Key, size
		}
		return Name, size
	case c == '-' || isDigit(c):
		return Number, numberSize(s)
	case c == '#':
		return Color, colorSize(s)
	case strings.IndexByte(marks, c) >= 0:
		return Mark, 1
	case strings.IndexByte(steps, c) >= 0 && !begins(s[1:], isSign):
		return Step, 1
	}
	return 0, 0
}

// nameSize is the size of the name that s begins with, 0 if it is too long.
func nameSize(s string) int {
	size := count(s, isNameSign)
	if size > api.MaxName {
		return 0
	}
	return size
}

// numberSize is the size of the Number that s begins with, 0 if it is amiss.
func numberSize(s string) int {
	rest := strings.TrimPrefix(s, "-")
	whole := digits(rest)
	if whole == 0 {
		return 0
	}
	rest = rest[whole:]
	if behind, ok := strings.CutPrefix(rest, "."); ok {
		part := digits(behind)
		if part == 0 {
			return 0
		}
		rest = behind[part:]
	}
	if glued(rest) {
		return 0
	}
	return len(s) - len(rest)
}

// digits is how many digits s begins with, 0 if they are too many.
func digits(s string) int {
	n := count(s, isDigit)
	if n > maxDigits {
		return 0
	}
	return n
}

// colorSize is the size of the Color that s begins with, 0 if it is amiss.
func colorSize(s string) int {
	n := count(s[1:], isColorDigit)
	size := 1 + n
	if n != narrow && n != wide || glued(s[size:]) {
		return 0
	}
	return size
}

// glued tells whether a Number or a Color may not stand ahead of s.
func glued(s string) bool {
	return begins(s, isSign) || begins(s, isPointOrHash)
}

// count is how many bytes of the kind s begins with.
func count(s string, is func(c byte) bool) int {
	for i := range len(s) {
		if !is(s[i]) {
			return i
		}
	}
	return len(s)
}

// begins tells whether s begins with a byte of the kind.
func begins(s string, is func(c byte) bool) bool { return s != "" && is(s[0]) }

func isSmall(c byte) bool { return 'a' <= c && c <= 'z' }

func isGreat(c byte) bool { return 'A' <= c && c <= 'Z' }

func isDigit(c byte) bool { return '0' <= c && c <= '9' }

func isNameSign(c byte) bool { return isSmall(c) || isDigit(c) || c == '_' }

// isSign tells whether c is a letter, a digit or _.
func isSign(c byte) bool { return isNameSign(c) || isGreat(c) }

func isColorDigit(c byte) bool { return isDigit(c) || 'a' <= c && c <= 'f' }

func isPointOrHash(c byte) bool { return c == '.' || c == '#' }

// isReserved tells whether s is one of the words that are no names.
func isReserved(s string) bool {
	switch s {
	case "icon", "scale", "const", "color", "shape", "fill", "evenodd", "nonzero",
		"line", "linear", "radial", "path", "use", "at", "by", "turn":
		return true
	}
	return false
}
