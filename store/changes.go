package store

import (
	"slices"

	"mailbag/acts"
	"mailbag/api"
	"mailbag/flags"
	"mailbag/folders"
)

// Copy lets messages come in to a folder, one by one, if there is room for all of them.
func Copy(f *folders.Folder, messages []folders.Message) ([]api.Act, bool) {
	if !f.HasRoom(len(messages)) {
		return nil, false
	}
	var list []api.Act
	for _, m := range messages {
		_, more := add(f, m.Flags, m.Text)
		list = append(list, more...)
	}
	return list, true
}

// SetFlags lets messages of a folder have the flags with which they come here.
func SetFlags(f *folders.Folder, messages []folders.Message) []api.Act {
	before := f.List()
	for _, m := range messages {
		f.SetFlags(m.Uid, m.Flags)
	}
	if f.List() == before {
		return nil
	}
	return put(f.List())
}

// Sweep takes the doomed messages of a folder away.
func Sweep(f *folders.Folder) []api.Act {
	var list []api.Act
	for _, m := range slices.Clone(f.Messages) {
		if flags.HaveAll(m.Flags, flags.Doomed) {
			// Each file goes by itself, as a crash may not leave a later message gone and an earlier one there.
			list = append(list, acts.Drop([]string{f.File(m).Name})...)
			f.Remove(m.Uid)
		}
	}
	if list == nil {
		return nil
	}
	return append(list, put(f.List())...)
}

func add(f *folders.Folder, flags, text string) (int, []api.Act) {
	m := f.Add(flags, text)
	// The message's file first: with the old list it means the message with this same UID, but a list ahead of it would use up the UID for none.
	return m.Uid, append(put(f.File(m)), put(f.List())...)
}

func messageFiles(f *folders.Folder) []string {
	var list []string
	for _, m := range f.Messages {
		list = append(list, f.File(m).Name)
	}
	return list
}

func put(f api.File) []api.Act {
	return acts.Put(f.Name, f.Data)
}
