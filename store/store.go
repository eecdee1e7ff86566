// Package store: the folders of a disk, and what is done on the disk when they change.
package store

import (
	"cmp"
	"slices"
	"strings"

	"mailbag/acts"
	"mailbag/api"
	"mailbag/filenames"
	"mailbag/folders"
	"mailbag/names"
)

// Store keeps what the files of a disk in order tell.
type Store struct {
	folders []*folders.Folder // by rising codes
	mark    int               // the number of the epoch's file; 0 if there is none
	others  []api.File
}

// Files tells the disk in order.
func (s *Store) Files() []api.File {
	files := slices.Clone(s.others)
	if s.mark > 0 {
		files = append(files, api.File{Name: filenames.OfEpoch(s.mark)})
	}
	for _, f := range s.folders {
		files = append(files, f.Files()...)
	}
	slices.SortFunc(files, byName)
	return files
}

// Find tells the folder of this name; nil, if there is none.
func (s *Store) Find(name string) *folders.Folder {
	for _, f := range s.folders {
		if f.Name == name {
			return f
		}
	}
	return nil
}

// Names tells the names of the folders, in the order of their codes.
func (s *Store) Names() []string {
	var list []string
	for _, f := range s.folders {
		list = append(list, f.Name)
	}
	return list
}

// Make makes a folder of this name, if it can be made.
func (s *Store) Make(name string) ([]api.Act, bool) {
	code, errno := names.Encode(name)
	if errno != api.OK || s.Find(name) != nil || len(s.folders) >= api.MaxFolders || s.epoch() >= api.MaxEpoch {
		return nil, false
	}
	f := &folders.Folder{Name: name, Code: code, Epoch: s.epoch() + 1, Next: 1}
	s.folders = append(s.folders, f)
	slices.SortFunc(s.folders, byFoldersCode)
	return put(f.List()), true
}

// Remove takes a folder away, with its messages.
func (s *Store) Remove(f *folders.Folder) []api.Act {
	epoch := s.epoch()
	waste := messageFiles(f)
	var list []api.Act
	if epoch > s.mark {
		// The epoch's file first: without it, and without the list, an epoch that was given could be given anew.
		list = acts.Put(filenames.OfEpoch(epoch), "")
		if s.mark > 0 {
			waste = append(waste, filenames.OfEpoch(s.mark))
		}
		s.mark = epoch
	}
	// The list goes by itself: without it the messages mean nothing, but some of them with it would be half a folder.
	list = append(list, acts.Drop([]string{f.List().Name})...)
	s.folders = slices.DeleteFunc(s.folders, func(other *folders.Folder) bool { return other == f })
	return append(list, acts.Drop(waste)...)
}

// Add lets a message come in to the folder of this name; its UID, and what is done on the disk.
func (s *Store) Add(name, flags, text string) (int, []api.Act, api.Errno) {
	if len(text) > api.MaxText {
		return 0, nil, api.ErrLong
	}
	f := s.Find(name)
	if f == nil {
		return 0, nil, api.ErrFolder
	}
	if !f.HasRoom(1) {
		return 0, nil, api.ErrFull
	}
	// The text may be memory of the caller's.
	uid, list := add(f, flags, strings.Clone(text))
	return uid, list, api.OK
}

// epoch tells the epoch of the disk: what was greater once stays on it as the mark.
func (s *Store) epoch() int {
	epoch := s.mark
	for _, f := range s.folders {
		epoch = max(epoch, f.Epoch)
	}
	return epoch
}

func byName(a, b api.File) int {
	return cmp.Compare(a.Name, b.Name)
}

func byFoldersCode(a, b *folders.Folder) int {
	return cmp.Compare(a.Code, b.Code)
}
