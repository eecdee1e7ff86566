// Package filenames: what the names of the files on a disk say, and how they are made.
package filenames

import (
	"strconv"
	"strings"

	"mailbag/api"
	"mailbag/flags"
	"mailbag/names"
	"mailbag/numbers"
)

// Kind is what a file is by its name.
type Kind int

// The kinds of files.
const (
	Another Kind = iota
	Temporary
	List
	Message
	Epoch
)

const (
	temporaryEnd = ".tmp"
	listEnd      = "/list"
	epochBegin   = "epoch/"
)

// Draft is the name of the file in which the bytes of another one are made ready.
const Draft = "draft" + temporaryEnd

// Sense is what a file's name says; what a kind of file does not tell is empty.
type Sense struct {
	Kind  Kind
	Code  string // of a list or a message
	Key   int    // of a message
	Flags string // of a message
	Epoch int    // of an epoch
}

// Read tells what a name says.
func Read(name string) Sense {
	if strings.HasSuffix(name, temporaryEnd) {
		return Sense{Kind: Temporary}
	}
	if code, ok := strings.CutSuffix(name, listEnd); ok && isCode(code) {
		return Sense{Kind: List, Code: code}
	}
	if sense, ok := readMessage(name); ok {
		return sense
	}
	if number, ok := strings.CutPrefix(name, epochBegin); ok {
		if epoch, ok := numbers.Read(number, 1, api.MaxEpoch); ok {
			return Sense{Kind: Epoch, Epoch: epoch}
		}
	}
	return Sense{}
}

// OfList names the list of the folder with this code.
func OfList(code string) string {
	return code + listEnd
}

// OfMessage names the file of a message that came in with these flags.
func OfMessage(code string, key int, flags string) string {
	return code + "/" + strconv.Itoa(key) + "." + flags
}

// OfEpoch names the file of an epoch.
func OfEpoch(epoch int) string {
	return epochBegin + strconv.Itoa(epoch)
}

func readMessage(name string) (Sense, bool) {
	code, rest, _ := strings.Cut(name, "/")
	number, letters, dotted := strings.Cut(rest, ".")
	key, ok := numbers.Read(number, 1, api.MaxKey)
	if !ok || !dotted || !flags.Right(letters) || !isCode(code) {
		return Sense{}, false
	}
	return Sense{Kind: Message, Code: code, Key: key, Flags: letters}, true
}

func isCode(code string) bool {
	_, errno := names.Decode(code)
	return errno == api.OK
}
