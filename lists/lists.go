// Package lists: the lists of folders, and their texts.
package lists

import (
	"strconv"
	"strings"

	"mailbag/api"
	"mailbag/flags"
)

const (
	sumStart   = 7
	sumFactor  = 31
	sumModulus = 99991
)

// Write tells the text of a list.
func Write(l api.List) (string, api.Errno) {
	if !right(l) {
		return "", api.ErrList
	}
	text := strconv.Itoa(l.Epoch) + " " + strconv.Itoa(l.Next) + "\n"
	for _, e := range l.Entries {
		text += strconv.Itoa(e.Key) + " " + strconv.Itoa(e.Uid) + " " + flags.Tell(e.Flags) + "\n"
	}
	return text + strconv.Itoa(sum(text)) + "\n", api.OK
}

// Read tells the list of a text.
func Read(data string) (api.List, api.Errno) {
	if len(data) > api.MaxData {
		return api.List{}, api.ErrLong
	}
	l, ok := parse(data)
	if !ok {
		return api.List{}, api.ErrList
	}
	// A list has one text, so a wrong sum, or a number written in another way, shows by not coming back.
	text, errno := Write(l)
	if errno != api.OK || text != data {
		return api.List{}, api.ErrList
	}
	return l, api.OK
}

func right(l api.List) bool {
	if !within(l.Epoch, api.MaxEpoch) || !within(l.Next, api.MaxUid+1) || len(l.Entries) > api.MaxMessages {
		return false
	}
	last := 0
	for i, e := range l.Entries {
		if e.Uid <= last || e.Uid >= l.Next {
			return false
		}
		if !within(e.Key, api.MaxKey) || hasKey(l.Entries[:i], e.Key) || !flags.Right(e.Flags) {
			return false
		}
		last = e.Uid
	}
	return true
}

func within(number, most int) bool {
	return number >= 1 && number <= most
}

func hasKey(entries []api.Entry, key int) bool {
	for _, e := range entries {
		if e.Key == key {
			return true
		}
	}
	return false
}

func sum(text string) int {
	total := sumStart
	for i := range len(text) {
		total = (total*sumFactor + int(text[i])) % sumModulus
	}
	return total
}

// parse reads more than texts of right lists: Read holds the list that comes out against the text.
func parse(data string) (api.List, bool) {
	lines := strings.Split(data, "\n")
	// Behind the first line and the entries stand the sum and, behind the last newline, nothing.
	behind := len(lines) - 2
	if behind < 1 {
		return api.List{}, false
	}
	l, ok := parseHead(lines[0])
	if !ok {
		return api.List{}, false
	}
	for _, line := range lines[1:behind] {
		e, ok := parseEntry(line)
		if !ok {
			return api.List{}, false
		}
		l.Entries = append(l.Entries, e)
	}
	return l, true
}

func parseHead(line string) (api.List, bool) {
	parts := strings.Split(line, " ")
	if len(parts) != 2 {
		return api.List{}, false
	}
	epoch, errEpoch := strconv.Atoi(parts[0])
	next, errNext := strconv.Atoi(parts[1])
	return api.List{Epoch: epoch, Next: next}, errEpoch == nil && errNext == nil
}

func parseEntry(line string) (api.Entry, bool) {
	parts := strings.Split(line, " ")
	if len(parts) != 3 {
		return api.Entry{}, false
	}
	key, errKey := strconv.Atoi(parts[0])
	uid, errUid := strconv.Atoi(parts[1])
	return api.Entry{Key: key, Uid: uid, Flags: flags.Meant(parts[2])}, errKey == nil && errUid == nil
}
