// Package acts: what is done on a disk, in pieces that a crash may not tear.
//
// A crash keeps any of the names changed since they were last safe, in whatever mixture. So every piece here ends with all names safe: the next one begins on a disk that is known.
package acts

import (
	"mailbag/api"
	"mailbag/filenames"
)

// Put gives the file of this name these bytes, whether it is there or not. Behind a crash it is as it was, or has them all: they are safe ahead of the name.
func Put(name, data string) []api.Act {
	return []api.Act{
		{Kind: api.ActMake, Name: filenames.Draft},
		{Kind: api.ActAdd, Name: filenames.Draft, Data: data},
		{Kind: api.ActSync, Name: filenames.Draft},
		{Kind: api.ActMove, Name: filenames.Draft, To: name},
		{Kind: api.ActSettle},
	}
}

// Drop takes files away. Behind a crash any of them may still be there.
func Drop(names []string) []api.Act {
	if len(names) == 0 {
		return nil
	}
	var list []api.Act
	for _, name := range names {
		list = append(list, api.Act{Kind: api.ActDrop, Name: name})
	}
	return append(list, api.Act{Kind: api.ActSettle})
}
