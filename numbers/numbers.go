// Package numbers: numbers in texts.
package numbers

import "strconv"

// Read tells the number that a text is, if it is one from least to most.
func Read(text string, least, most int) (int, bool) {
	n, err := strconv.Atoi(text)
	if err != nil || n < least || n > most {
		return 0, false
	}
	// A number has one text, so a sign or a needless 0 shows by not coming back.
	if strconv.Itoa(n) != text {
		return 0, false
	}
	return n, true
}
