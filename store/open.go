package store

import (
	"cmp"
	"slices"
	"strings"

	"mailbag/acts"
	"mailbag/api"
	"mailbag/filenames"
	"mailbag/folders"
	"mailbag/lists"
	"mailbag/names"
)

// disk is what lies on a disk.
type disk struct {
	folders  []*found // by rising codes
	mark     int      // the greatest epoch's file; 0 if there is none
	markData string
	others   []api.File
	waste    []string // the names of files that a disk in order does not have
}

// found is a folder as it lies on a disk: its list, and its messages, which have no UIDs and no flags but those they came in with.
type found struct {
	code, text string
	messages   []folders.Message
	list       api.List
	broken     bool
}

// loose is a message's file of which it is not yet known whether it has a folder.
type loose struct {
	name  string
	sense filenames.Sense
	text  string
}

// Open makes a store of a disk's files; what is done to put the disk in order.
func Open(files []api.File) (*Store, []api.Act, api.Errno) {
	if slices.ContainsFunc(files, tooLong) {
		return nil, nil, api.ErrDisk
	}
	d, ok := sortOut(own(files))
	if !ok {
		return nil, nil, api.ErrDisk
	}
	s, ok := d.store()
	if !ok {
		return nil, nil, api.ErrDisk
	}
	return s, d.putInOrder(s), api.OK
}

func tooLong(f api.File) bool {
	return len(f.Data) > api.MaxData
}

// own copies files, by rising names, into memory that the caller can't write into.
func own(files []api.File) []api.File {
	mine := make([]api.File, 0, len(files))
	for _, f := range files {
		mine = append(mine, api.File{Name: strings.Clone(f.Name), Data: strings.Clone(f.Data)})
	}
	slices.SortFunc(mine, byName)
	return mine
}

// sortOut reads the names of files, which come by rising names; it tells false if it sees by them that the disk is wrong.
func sortOut(files []api.File) (*disk, bool) {
	d := &disk{}
	var messages []loose
	for i, f := range files {
		if i > 0 && f.Name == files[i-1].Name {
			return nil, false
		}
		sense := filenames.Read(f.Name)
		switch sense.Kind {
		case filenames.Temporary:
			d.waste = append(d.waste, f.Name)
		case filenames.List:
			d.folders = append(d.folders, &found{code: sense.Code, text: f.Data})
		case filenames.Message:
			messages = append(messages, loose{f.Name, sense, f.Data})
		case filenames.Epoch:
			d.takeEpoch(sense.Epoch, f.Data)
		default:
			d.others = append(d.others, f)
		}
	}
	if len(d.folders) > api.MaxFolders || len(d.others) > api.MaxFiles {
		return nil, false
	}
	slices.SortFunc(d.folders, byCode)
	return d, d.takeMessages(messages)
}

func (d *disk) takeEpoch(epoch int, data string) {
	if epoch < d.mark {
		d.waste = append(d.waste, filenames.OfEpoch(epoch))
		return
	}
	if d.mark > 0 {
		d.waste = append(d.waste, filenames.OfEpoch(d.mark))
	}
	d.mark, d.markData = epoch, data
}

func (d *disk) takeMessages(messages []loose) bool {
	for _, m := range messages {
		if len(m.text) > api.MaxText {
			return false
		}
		f := d.find(m.sense.Code)
		if f == nil {
			d.waste = append(d.waste, m.name)
			continue
		}
		if len(f.messages) == api.MaxMessages || f.place(m.sense.Key) >= 0 {
			return false
		}
		f.messages = append(f.messages, folders.Message{Key: m.sense.Key, Flags: m.sense.Flags, Came: m.sense.Flags, Text: m.text})
	}
	for _, f := range d.folders {
		slices.SortFunc(f.messages, byKey)
	}
	return true
}

func (d *disk) find(code string) *found {
	for _, f := range d.folders {
		if f.code == code {
			return f
		}
	}
	return nil
}

// store tells false if a folder would get an epoch that is too great.
func (d *disk) store() (*Store, bool) {
	epoch := d.mark
	for _, f := range d.folders {
		f.readList()
		if !f.broken {
			epoch = max(epoch, f.list.Epoch)
		}
	}
	s := &Store{mark: d.mark, others: d.others}
	for _, f := range d.folders {
		if f.broken {
			epoch++
			f.list = api.List{Epoch: epoch, Next: 1}
		}
		s.folders = append(s.folders, f.folder())
	}
	return s, epoch <= api.MaxEpoch
}

// putInOrder changes nothing that a reader of the disk sees in the folders, wherever it is broken off. The waste goes first, as the name of the draft may be among it. The lists are mended one by one by rising codes: a broken one that is not yet mended must get its epoch behind those that the broken ones ahead of it got.
func (d *disk) putInOrder(s *Store) []api.Act {
	list := acts.Drop(d.waste)
	if d.markData != "" {
		list = append(list, acts.Put(filenames.OfEpoch(d.mark), "")...)
	}
	for i, f := range s.folders {
		if file := f.List(); file.Data != d.folders[i].text {
			list = append(list, put(file)...)
		}
	}
	return list
}

func (f *found) readList() {
	l, errno := lists.Read(f.text)
	f.list = l
	f.broken = errno != api.OK || l.Next+f.missing(l)-1 > api.MaxUid
}

func (f *found) missing(l api.List) int {
	count := 0
	for _, m := range f.messages {
		if !hasKey(l, m.Key) {
			count++
		}
	}
	return count
}

func (f *found) folder() *folders.Folder {
	// The code was read as one, so it has a name.
	name, _ := names.Decode(f.code)
	made := &folders.Folder{Name: name, Code: f.code, Epoch: f.list.Epoch, Next: f.list.Next}
	for _, e := range f.list.Entries {
		if i := f.place(e.Key); i >= 0 {
			m := f.messages[i]
			m.Uid, m.Flags = e.Uid, e.Flags
			made.Messages = append(made.Messages, m)
		}
	}
	for _, m := range f.messages {
		if !hasKey(f.list, m.Key) {
			made.Append(m)
		}
	}
	return made
}

func (f *found) place(key int) int {
	return slices.IndexFunc(f.messages, func(m folders.Message) bool { return m.Key == key })
}

func hasKey(l api.List, key int) bool {
	return slices.ContainsFunc(l.Entries, func(e api.Entry) bool { return e.Key == key })
}

func byCode(a, b *found) int {
	return cmp.Compare(a.code, b.code)
}

func byKey(a, b folders.Message) int {
	return cmp.Compare(a.Key, b.Key)
}
