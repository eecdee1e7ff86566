// Package search: the keys by which messages are found.
package search

import (
	"strings"

	"mailbag/flags"
	"mailbag/folders"
	"mailbag/numbers"
)

const (
	every    = "ALL"
	mostSize = 999
)

// The signs with which the keys begin.
const (
	having  = '+'
	lacking = '-'
	longer  = '>'
	holding = '='
)

// Key is what a key says. Without a sign it fits every message.
type Key struct {
	sign byte
	word string // flags or bytes
	size int
}

// Read tells the key that a text is, if it is one.
func Read(text string) (Key, bool) {
	if text == every {
		return Key{}, true
	}
	if len(text) < 2 {
		return Key{}, false
	}
	sign, word := text[0], text[1:]
	switch sign {
	case having, lacking:
		return Key{sign: sign, word: word}, flags.Right(word)
	case longer:
		size, ok := numbers.Read(word, 0, mostSize)
		return Key{sign: sign, size: size}, ok
	case holding:
		return Key{sign: sign, word: word}, true
	}
	return Key{}, false
}

// Fits tells whether a message is one that the key means.
func (k Key) Fits(m folders.Message) bool {
	switch k.sign {
	case having:
		return flags.HaveAll(m.Flags, k.word)
	case lacking:
		return flags.HaveNone(m.Flags, k.word)
	case longer:
		return len(m.Text) > k.size
	case holding:
		return strings.Contains(m.Text, k.word)
	}
	return true
}
