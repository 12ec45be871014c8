// Package quote is layer 1, texts between quotes and lines of words: see shared/doc/01-quote.md.
package quote

import "strings"

const (
	mark      = '"'
	backslash = '\\'
	blank     = ' '
	digits    = "0123456789abcdef"
	escape    = 4 // bytes of a backslash, an x and two digits
)

// Quote answers the text s, quoted.
func Quote(s string) string {
	out := make([]byte, 0, len(s)+2)
	out = append(out, mark)
	for i := range len(s) {
		if bare(s[i]) {
			out = append(out, s[i])
		} else {
			out = append(out, backslash, 'x', digits[s[i]>>4], digits[s[i]&15])
		}
	}
	return string(append(out, mark))
}

// Unquote answers the text that is quoted as s, and whether there is one.
func Unquote(s string) (string, bool) {
	if len(s) < 2 || s[0] != mark || s[len(s)-1] != mark {
		return "", false
	}
	rest := s[1 : len(s)-1]
	// A builder's text is new memory even if it is one byte, which a conversion of bytes is not.
	var out strings.Builder
	out.Grow(len(rest))
	for rest != "" {
		b, size := first(rest)
		if size == 0 {
			return "", false
		}
		out.WriteByte(b)
		rest = rest[size:]
	}
	return out.String(), true
}

// Plain tells whether s is a plain word.
func Plain(s string) bool {
	for i := range len(s) {
		if s[i] < 0x21 || s[i] > 0x7e || s[i] == mark {
			return false
		}
	}
	return s != ""
}

// Split answers the words of the line s, as they stand, and whether it is a line.
func Split(s string) ([]string, bool) {
	if s == "" {
		return nil, true
	}
	var words []string
	rest, whole := s, false
line:
	for {
		// A quoted text has its marks at its ends alone, so that a blank behind an odd number of them ends no word.
		inside := false
		for i := range len(rest) {
			if rest[i] == mark {
				inside = !inside
			}
			if rest[i] != blank || inside {
				continue
			}
			if !word(rest[:i]) {
				break line
			}
			words = append(words, strings.Clone(rest[:i]))
			rest = rest[i+1:]
			continue line
		}
		whole = word(rest)
		break line
	}
	if !whole {
		return nil, false
	}
	return append(words, strings.Clone(rest)), true
}

// Join answers the texts of l with a blank between two.
func Join(l []string) string {
	// The library's Join would answer a lone text itself, which is no new memory.
	var out strings.Builder
	for i, s := range l {
		if i > 0 {
			out.WriteByte(blank)
		}
		out.WriteString(s)
	}
	return out.String()
}

// bare tells whether the byte stands for itself in a quoted text.
func bare(b byte) bool {
	return b >= 0x20 && b <= 0x7e && b != mark && b != backslash
}

// first answers the byte for which the beginning of s stands inside a quoted text, and how many bytes that beginning has: 0, if s begins otherwise.
func first(s string) (byte, int) {
	if bare(s[0]) {
		return s[0], 1
	}
	if len(s) < escape || s[0] != backslash || s[1] != 'x' {
		return 0, 0
	}
	high, low := strings.IndexByte(digits, s[2]), strings.IndexByte(digits, s[3])
	if high < 0 || low < 0 {
		return 0, 0
	}
	b := byte(high<<4 | low)
	if bare(b) {
		// Each text is quoted in one form, so that what stands for itself is never written by digits.
		return 0, 0
	}
	return b, escape
}

// word tells whether s is a word, plain or quoted.
func word(s string) bool {
	if Plain(s) {
		return true
	}
	_, ok := Unquote(s)
	return ok
}
