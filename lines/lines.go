// Package lines: what the lines of connections say.
package lines

import (
	"slices"
	"strings"

	"mailbag/api"
	"mailbag/flags"
	"mailbag/numbers"
	"mailbag/search"
	"mailbag/sets"
)

// NoTag stands for the tag in an answer to what has none.
const NoTag = "*"

// Line is what a line says; what it does not tell is empty.
type Line struct {
	Tag    string
	Ask    Ask
	Update Update
	Folder string
	Flags  string
	Size   int    // of the text that follows
	Text   string // which is no part of the line, and comes behind it
	Set    sets.Set
	Items  string
	Keys   []search.Key
}

// Read tells what a line says that comes while a folder is opened or is not; false, if it is not one that may come. The tag is told in any case.
func Read(text string, opened bool) (Line, bool) {
	parts := strings.Split(text, " ")
	tag, parts := parts[0], parts[1:]
	if !isTag(tag) {
		return Line{Tag: NoTag}, false
	}
	wrong := Line{Tag: tag}
	if len(parts) == 0 || slices.Contains(parts, "") {
		return wrong, false
	}
	r, ok := ruleOf(parts[0])
	parts = parts[1:]
	if !ok || r.opened && !opened || !r.takes(len(parts)) {
		return wrong, false
	}
	line := Line{Tag: tag, Ask: r.ask, Update: r.update}
	for i, part := range parts {
		if !line.take(r.kind(i), part) {
			return wrong, false
		}
	}
	return line, true
}

func isTag(text string) bool {
	for i := range len(text) {
		if !isLetterOrDigit(text[i]) {
			return false
		}
	}
	return len(text) >= 1 && len(text) <= api.MaxTag
}

func isLetterOrDigit(b byte) bool {
	return b >= 'a' && b <= 'z' || b >= 'A' && b <= 'Z' || b >= '0' && b <= '9'
}

// take reads a part, which is not empty, as one of this kind.
func (l *Line) take(kind byte, part string) bool {
	ok := true
	switch kind {
	case aFolder:
		l.Folder = part
	case flagsOrNone:
		l.Flags = flags.Meant(part)
		ok = flags.Right(l.Flags)
	case someFlags:
		l.Flags = part
		ok = flags.Right(part)
	case aSize:
		l.Size, ok = numbers.Read(part, 0, api.MaxText)
	case aSet:
		l.Set, ok = sets.Read(part)
	case theItems:
		l.Items = part
		ok = areItems(part)
	case aKey:
		var key search.Key
		key, ok = search.Read(part)
		l.Keys = append(l.Keys, key)
	}
	return ok
}

// The items that may be asked of a message.
const (
	ItemUid   = 'U'
	ItemFlags = 'F'
	ItemSize  = 'S'
	ItemText  = 'T'
)

func areItems(word string) bool {
	for i := range len(word) {
		switch word[i] {
		case ItemUid, ItemFlags, ItemSize, ItemText:
		default:
			return false
		}
		if strings.IndexByte(word, word[i]) < i {
			return false
		}
	}
	return true
}
