// Package folders: folders, their messages, and the files in which both lie.
package folders

import (
	"slices"

	"mailbag/api"
	"mailbag/filenames"
	"mailbag/lists"
)

// Message is a message of a folder.
type Message struct {
	Key, Uid int
	Flags    string
	Came     string // the flags in its file's name, which stays as it is when the flags change
	Text     string
}

// Folder is a folder; its messages are in the order of their UIDs.
type Folder struct {
	Name, Code  string
	Epoch, Next int
	Messages    []Message
}

// HasRoom tells whether so many messages can come in.
func (f *Folder) HasRoom(count int) bool {
	return len(f.Messages)+count <= api.MaxMessages && f.Next+count-1 <= api.MaxUid
}

// Find tells the message of a UID, if it is there.
func (f *Folder) Find(uid int) (Message, bool) {
	for _, m := range f.Messages {
		if m.Uid == uid {
			return m, true
		}
	}
	return Message{}, false
}

// Add lets a message come in.
func (f *Folder) Add(flags, text string) Message {
	m := Message{Key: f.freeKey(), Flags: flags, Came: flags, Text: text}
	return f.Append(m)
}

// Append puts a message behind the others: it gets the next UID.
func (f *Folder) Append(m Message) Message {
	m.Uid = f.Next
	f.Next++
	f.Messages = append(f.Messages, m)
	return m
}

// SetFlags gives the message of a UID these flags.
func (f *Folder) SetFlags(uid int, flags string) {
	for i := range f.Messages {
		if f.Messages[i].Uid == uid {
			f.Messages[i].Flags = flags
		}
	}
}

// Remove takes the message of a UID away.
func (f *Folder) Remove(uid int) {
	f.Messages = slices.DeleteFunc(f.Messages, func(m Message) bool { return m.Uid == uid })
}

// File tells the file of a message.
func (f *Folder) File(m Message) api.File {
	return api.File{Name: filenames.OfMessage(f.Code, m.Key, m.Came), Data: m.Text}
}

// List tells the file of the list.
func (f *Folder) List() api.File {
	l := api.List{Epoch: f.Epoch, Next: f.Next}
	for _, m := range f.Messages {
		l.Entries = append(l.Entries, api.Entry{Key: m.Key, Uid: m.Uid, Flags: m.Flags})
	}
	// A folder's list is right, so there is no error to ask for.
	text, _ := lists.Write(l)
	return api.File{Name: filenames.OfList(f.Code), Data: text}
}

// Files tells all files of the folder.
func (f *Folder) Files() []api.File {
	files := []api.File{f.List()}
	for _, m := range f.Messages {
		files = append(files, f.File(m))
	}
	return files
}

func (f *Folder) freeKey() int {
	key := 1
	for f.hasKey(key) {
		key++
	}
	return key
}

func (f *Folder) hasKey(key int) bool {
	for _, m := range f.Messages {
		if m.Key == key {
			return true
		}
	}
	return false
}
