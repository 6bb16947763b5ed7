// Package quote writes and reads texts between quotes, as programs, recipes and scripts have them: bytes from 20 to 7e (hexadecimal), but neither a quote nor a backslash, stand for themselves; a backslash and two digits 0 to 9, a to f stand for the byte of that number.
package quote

import "strings"

const digits = "0123456789abcdef"

// plain answers whether a byte stands for itself.
func plain(b byte) bool { return b >= ' ' && b <= '~' && b != '"' && b != '\\' }

// Text answers a text between quotes, in which each byte that may stand for itself does.
func Text(s string) string {
	out := []byte{'"'}
	for i := range len(s) {
		if b := s[i]; plain(b) {
			out = append(out, b)
		} else {
			out = append(out, '\\', digits[b>>4], digits[b&15])
		}
	}
	return string(append(out, '"'))
}

// Cut answers what the text between quotes at the beginning of s stands for, what follows it, and true; false, if none stands there whole.
func Cut(s string) (text, rest string, ok bool) {
	if s == "" || s[0] != '"' {
		return "", "", false
	}
	var out []byte
	for s = s[1:]; s != "" && s[0] != '"'; {
		b, size := first(s)
		if size == 0 {
			return "", "", false
		}
		out = append(out, b)
		s = s[size:]
	}
	if s == "" {
		return "", "", false
	}
	return string(out), s[1:], true
}

// first answers the byte that s begins with, written as it stands between quotes, and how many bytes tell it; 0: none does.
func first(s string) (byte, int) {
	if plain(s[0]) {
		return s[0], 1
	}
	if s[0] != '\\' || len(s) < 3 {
		return 0, 0
	}
	high, low := strings.IndexByte(digits, s[1]), strings.IndexByte(digits, s[2])
	if high < 0 || low < 0 {
		return 0, 0
	}
	return byte(high<<4 | low), 3
}

// Whole answers what a text between quotes stands for, and true; false, if s is none.
func Whole(s string) (string, bool) {
	text, rest, ok := Cut(s)
	if !ok || rest != "" {
		return "", false
	}
	return text, true
}
