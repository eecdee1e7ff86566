// Package store: the folders of a disk, and what is done on the disk when they change.
package store

import (
	"cmp"
	"slices"
	"strings"

	"mailbag/acts"
	"mailbag/api"
	"mailbag/filenames"
	"mailbag/folders"
)

// Store keeps what the files of a disk in order tell.
type Store struct {
	folders []*folders.Folder // by rising codes
	mark    int               // the number of the epoch's file; 0 if there is none
	others  []api.File
}

// Files tells the disk in order.
func (s *Store) Files() []api.File {
	files := slices.Clone(s.others)
	if s.mark > 0 {
		files = append(files, api.File{Name: filenames.OfEpoch(s.mark)})
	}
	for _, f := range s.folders {
		files = append(files, f.Files()...)
	}
	slices.SortFunc(files, byName)
	return files
}

// Add lets a message come in to the folder of this name; its UID, and what is done on the disk.
func (s *Store) Add(name, flags, text string) (int, []api.Act, api.Errno) {
	if len(text) > api.MaxText {
		return 0, nil, api.ErrLong
	}
	f := s.find(name)
	if f == nil {
		return 0, nil, api.ErrFolder
	}
	if f.Full() {
		return 0, nil, api.ErrFull
	}
	m := f.Add(strings.Clone(flags), strings.Clone(text))
	// The message's file first: with the old list it means the message with this same UID, but a list ahead of it would use up the UID for none.
	return m.Uid, append(put(f.File(m)), put(f.List())...), api.OK
}

func (s *Store) find(name string) *folders.Folder {
	for _, f := range s.folders {
		if f.Name == name {
			return f
		}
	}
	return nil
}

func put(f api.File) []api.Act {
	return acts.Put(f.Name, f.Data)
}

func byName(a, b api.File) int {
	return cmp.Compare(a.Name, b.Name)
}
