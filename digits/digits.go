// Package digits reads whole numbers in decimal digits, as all layers write them: without noughts ahead, "-" ahead of one below 0.
package digits

import "strconv"

// Parse answers the number of a text, as far as an int goes, and true; 0 and false of any other text.
func Parse(s string) (int, bool) {
	n, err := strconv.Atoi(s)
	if err != nil || strconv.Itoa(n) != s {
		return 0, false
	}
	return n, true
}
