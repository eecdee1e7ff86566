// Package views: what a connection knows of the folder that it has opened.
package views

import (
	"slices"
	"strconv"

	"mailbag/flags"
	"mailbag/folders"
	"mailbag/sets"
)

// View is the view of a folder.
//
// It knows messages by their UIDs: a folder that is opened can't be removed, so a UID means one message as long as there is a view.
type View struct {
	Folder *folders.Folder
	Look   bool // the folder was opened by LOOK
	known  []known
}

type known struct {
	uid  int
	told string // flags
}

// Placed is a message at its place.
type Placed struct {
	Place   int
	Message folders.Message
}

// Of gives a new view of a folder.
func Of(f *folders.Folder, look bool) *View {
	v := &View{Folder: f, Look: look}
	v.takeIn()
	return v
}

// Count tells how many messages the view has, with those that are gone.
func (v *View) Count() int {
	return len(v.known)
}

// There tells the messages that are not gone.
func (v *View) There() []Placed {
	var list []Placed
	for i, k := range v.known {
		if m, ok := v.Folder.Find(k.uid); ok {
			list = append(list, Placed{i + 1, m})
		}
	}
	return list
}

// Meant tells the messages of a set that are not gone; false, if it names a place that the view does not have.
func (v *View) Meant(s sets.Set) ([]Placed, bool) {
	places, ok := s.Places(v.Count())
	if !ok {
		return nil, false
	}
	var meant []Placed
	for _, p := range v.There() {
		if slices.Contains(places, p.Place) {
			meant = append(meant, p)
		}
	}
	return meant, true
}

// Update brings the view up to date, but leaves messages that are gone in their places unless it is to drop them; the lines that tell it.
func (v *View) Update(dropGone bool) []string {
	var lines []string
	if dropGone {
		lines = v.dropGone()
	}
	if v.takeIn() {
		lines = append(lines, "* COUNT "+strconv.Itoa(v.Count()))
	}
	return append(lines, v.tellFlags()...)
}

func (v *View) dropGone() []string {
	var lines []string
	var left []known
	for _, k := range v.known {
		if _, ok := v.Folder.Find(k.uid); ok {
			left = append(left, k)
			continue
		}
		// Those ahead of it have gone from the view by now.
		lines = append(lines, about(len(left)+1, "GONE"))
	}
	v.known = left
	return lines
}

// takeIn takes in the messages that the view does not have, if there are any.
func (v *View) takeIn() bool {
	before := v.Count()
	for _, m := range v.Folder.Messages {
		if !v.knows(m.Uid) {
			v.known = append(v.known, known{m.Uid, m.Flags})
		}
	}
	return v.Count() > before
}

func (v *View) knows(uid int) bool {
	return slices.ContainsFunc(v.known, func(k known) bool { return k.uid == uid })
}

func (v *View) tellFlags() []string {
	var lines []string
	for _, p := range v.There() {
		k := &v.known[p.Place-1]
		if k.told != p.Message.Flags {
			k.told = p.Message.Flags
			lines = append(lines, about(p.Place, "FLAGS "+flags.Tell(k.told)))
		}
	}
	return lines
}

func about(place int, what string) string {
	return "* " + strconv.Itoa(place) + " " + what
}
