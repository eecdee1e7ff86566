// Package names: the names of folders, and the codes that stand for them in the names of files.
package names

import (
	"strconv"
	"strings"
	"unicode/utf8"

	"mailbag/api"
)

const (
	firstRune   = 33
	deleteRune  = 127
	mark        = "="
	longestCode = api.MaxName * len("=10ffff=")
)

// Encode tells the code of a folder's name.
func Encode(name string) (string, api.Errno) {
	if !isName(name) {
		return "", api.ErrName
	}
	var code []byte
	for _, r := range name {
		code = appendCode(code, r)
	}
	return string(code), api.OK
}

// Decode tells the name that a code stands for.
func Decode(code string) (string, api.Errno) {
	if len(code) > longestCode {
		return "", api.ErrName
	}
	name, ok := spell(code)
	if !ok {
		return "", api.ErrName
	}
	// A name has one code, so what says a rune in another way shows by not coming back.
	back, errno := Encode(name)
	if errno != api.OK || back != code {
		return "", api.ErrName
	}
	return name, api.OK
}

func isName(name string) bool {
	count := 0
	for _, r := range name {
		count++
		if count > api.MaxName || !isNameRune(r) {
			return false
		}
	}
	return count > 0
}

// Bytes that are no UTF-8 come as utf8.RuneError, which is 65533 and may not stand in a name: they need no test of their own.
func isNameRune(r rune) bool {
	return r >= firstRune && r != deleteRune && r != utf8.RuneError
}

func standsForItself(r rune) bool {
	return r >= 'a' && r <= 'z' || r >= '0' && r <= '9'
}

func appendCode(code []byte, r rune) []byte {
	if standsForItself(r) {
		return utf8.AppendRune(code, r)
	}
	code = append(code, mark...)
	code = strconv.AppendInt(code, int64(r), 16)
	return append(code, mark...)
}

// spell reads more than codes: Decode holds the name that comes out against the code.
func spell(code string) (string, bool) {
	var name []byte
	for i, part := range strings.Split(code, mark) {
		if i%2 == 0 {
			name = append(name, part...)
			continue
		}
		number, err := strconv.ParseInt(part, 16, 32)
		if err != nil {
			return "", false
		}
		name = utf8.AppendRune(name, rune(number))
	}
	return string(name), true
}
