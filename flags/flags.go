// Package flags: the flags of messages, and how they are told in lists and lines.
package flags

import "strings"

const (
	inOrder = "adfs"
	none    = "-"
)

// Right tells whether these are flags: each at most once, in their order.
func Right(flags string) bool {
	rest := inOrder
	for i := range len(flags) {
		place := strings.IndexByte(rest, flags[i])
		if place < 0 {
			return false
		}
		rest = rest[place+1:]
	}
	return true
}

// Tell gives the word for flags.
func Tell(flags string) string {
	if flags == "" {
		return none
	}
	return flags
}

// Meant gives what a word for flags means, in memory of its own; whether these are flags is for Right to say.
func Meant(word string) string {
	if word == none {
		return ""
	}
	return strings.Clone(word)
}
