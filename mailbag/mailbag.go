// Package mailbag: folders of messages on a disk that may crash, and the lines by which they are read: see DOC.md.
package mailbag

import (
	"sync"

	"mailbag/api"
	"mailbag/lists"
	"mailbag/names"
	"mailbag/store"
	"mailbag/talk"
)

// Encode tells a folder's code (P3).
func Encode(name string) (string, api.Errno) { return names.Encode(name) }

// Decode tells the name of a code (P4).
func Decode(code string) (string, api.Errno) { return names.Decode(code) }

// Write writes a list (P5).
func Write(l api.List) (string, api.Errno) { return lists.Write(l) }

// Read reads a list (P6).
func Read(data string) (api.List, api.Errno) { return lists.Read(data) }

// Server keeps the folders.
type Server struct {
	lock  sync.Mutex
	store *store.Store
	talk  *talk.Talk
}

// Open makes a server of a disk's files; what it does on the disk (P7).
func Open(files []api.File) (*Server, []api.Act, api.Errno) {
	kept, acts, errno := store.Open(files)
	if errno != api.OK {
		return nil, nil, errno
	}
	return &Server{store: kept, talk: talk.Of(kept)}, acts, api.OK
}

// Files tells the files that the disk has when all is done (P8).
func (s *Server) Files() []api.File {
	s.lock.Lock()
	defer s.lock.Unlock()
	return s.store.Files()
}

// Deliver brings a message; its number, what is done on the disk (P9).
func (s *Server) Deliver(folder string, text string) (int, []api.Act, api.Errno) {
	s.lock.Lock()
	defer s.lock.Unlock()
	return s.store.Add(folder, "", text)
}

// Feed brings bytes of a connection; the bytes that go back, what is done on the disk (P10).
func (s *Server) Feed(conn int, chunk string) (string, []api.Act, api.Errno) {
	s.lock.Lock()
	defer s.lock.Unlock()
	return s.talk.Feed(conn, chunk)
}
