// Package flags: the flags of messages, and how they are told in lists and lines.
package flags

import "strings"

const (
	inOrder = "adfs"
	none    = "-"
)

// Doomed is the flag of messages that a sweep takes away.
const Doomed = "d"

// Right tells whether these are flags: each at most once, in their order.
func Right(flags string) bool {
	rest := inOrder
	for i := range len(flags) {
		place := strings.IndexByte(rest, flags[i])
		if place < 0 {
			return false
		}
		rest = rest[place+1:]
	}
	return true
}

// Tell gives the word for flags.
func Tell(flags string) string {
	if flags == "" {
		return none
	}
	return flags
}

// Meant gives what a word for flags means, in memory of its own; whether these are flags is for Right to say.
func Meant(word string) string {
	if word == none {
		return ""
	}
	return strings.Clone(word)
}

// Plus gives flags with more of them.
func Plus(have, more string) string {
	all := ""
	for i := range len(inOrder) {
		if letter := inOrder[i : i+1]; strings.Contains(have, letter) || strings.Contains(more, letter) {
			all += letter
		}
	}
	return all
}

// Minus gives flags without others.
func Minus(have, others string) string {
	left := ""
	for i := range len(have) {
		if letter := have[i : i+1]; !strings.Contains(others, letter) {
			left += letter
		}
	}
	return left
}

// HaveAll tells whether all of the others are among flags.
func HaveAll(have, others string) bool {
	return Plus(have, others) == have
}

// HaveNone tells whether none of the others is among flags.
func HaveNone(have, others string) bool {
	return !strings.ContainsAny(have, others)
}
