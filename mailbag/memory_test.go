package mailbag_test

import (
	"slices"
	"strings"
	"testing"
	"unsafe"

	"mailbag/api"
	"mailbag/mailbag"
)

// A text whose bytes the test can write over later, as no text of plain Go can be.
func shaky(s string) (string, func()) {
	bytes := []byte(s)
	spoil := func() {
		for i := range bytes {
			bytes[i] = '#'
		}
	}
	return unsafe.String(unsafe.SliceData(bytes), len(bytes)), spoil
}

func TestCallsOfAnyLengthEnd(t *testing.T) {
	for _, s := range []string{"a", "=", "=41=", "é", "\xff", " ", "0", "=0", "\n"} {
		long := strings.Repeat(s, 5000000)
		refuseEncode(t, long)
		refuseDecode(t, long)
		refuseDecode(t, "="+long+"=")
		refuseRead(t, long, api.ErrLong)
		refuseWrite(t, one(api.Entry{Key: 1, Uid: 1, Flags: long}))
	}
	many := api.List{Epoch: 1, Next: 100, Entries: make([]api.Entry, 3000000)}
	for i := range many.Entries {
		many.Entries[i] = api.Entry{Key: i + 1, Uid: i + 1}
	}
	refuseWrite(t, many)
	refuseWrite(t, api.List{Epoch: 1, Next: 1, Entries: make([]api.Entry, 3000000)})
}

func TestListsOfNothing(t *testing.T) {
	wantWrite(t, api.List{Epoch: 1, Next: 1, Entries: nil}, "1 1\n57398\n")
	wantWrite(t, api.List{Epoch: 1, Next: 1, Entries: []api.Entry{}}, "1 1\n57398\n")
	refuseWrite(t, api.List{})
}

func TestWriteLeavesTheListAlone(t *testing.T) {
	spare := api.Entry{Key: -7, Uid: -7, Flags: "spare"}
	for _, right := range []bool{true, false} {
		room := []api.Entry{{Key: 9, Uid: 1, Flags: "s"}, {Key: 3, Uid: 2}, {Key: 4, Uid: 7, Flags: "ad"}, spare, spare, spare}
		if !right {
			room[2].Uid = 2
		}
		before := slices.Clone(room)
		mailbag.Write(api.List{Epoch: 1, Next: 9, Entries: room[:3]})
		if !slices.Equal(room, before) {
			t.Errorf("P2: Write wrote into the list: %v, was %v", room, before)
		}
	}
}

func TestWriteSeesTheListAsItIsNow(t *testing.T) {
	entries := []api.Entry{{Key: 1, Uid: 1, Flags: "a"}}
	l := api.List{Epoch: 1, Next: 9, Entries: entries}
	wantWrite(t, l, withSum("1 9\n1 1 a\n"))
	entries[0] = api.Entry{Key: 2, Uid: 3, Flags: "s"}
	wantWrite(t, l, withSum("1 9\n2 3 s\n"))
}

func TestListsThatComeOutAreNew(t *testing.T) {
	text := withSum("1 9\n5 1 a\n4 2 -\n3 3 ds\n")
	want := api.List{Epoch: 1, Next: 9, Entries: []api.Entry{{Key: 5, Uid: 1, Flags: "a"}, {Key: 4, Uid: 2}, {Key: 3, Uid: 3, Flags: "ds"}}}
	first, _ := mailbag.Read(text)
	second, _ := mailbag.Read(text)
	junk := api.Entry{Key: -1, Uid: -1, Flags: "junk"}
	whole := first.Entries[:cap(first.Entries)]
	for i := range whole {
		whole[i] = junk
	}
	_ = append(first.Entries, junk, junk)
	if !sameList(second, want) {
		t.Errorf("P2: a list that came out hangs on another: %v", second)
	}
	wantRead(t, text, want)
}

func TestNoTextIsKept(t *testing.T) {
	for _, name := range []string{"inbox", "a", "Été"} {
		want, _ := mailbag.Encode(name)
		s, spoil := shaky(name)
		code, _ := mailbag.Encode(s)
		spoil()
		if code != want {
			t.Errorf("P2: the code of %q hangs on the text handed in: %q", name, code)
		}
		s, spoil = shaky(want)
		back, _ := mailbag.Decode(s)
		spoil()
		if back != name {
			t.Errorf("P2: the name %q hangs on the text handed in: %q", name, back)
		}
	}
	want := one(api.Entry{Key: 1, Uid: 1, Flags: "adfs"})
	s, spoil := shaky(withSum("1 100\n1 1 adfs\n"))
	l, _ := mailbag.Read(s)
	spoil()
	if !sameList(l, want) {
		t.Errorf("P2: the list %v hangs on the text handed in: %v", want, l)
	}
	s, spoil = shaky("adfs")
	text, _ := mailbag.Write(one(api.Entry{Key: 1, Uid: 1, Flags: s}))
	spoil()
	if text != withSum("1 100\n1 1 adfs\n") {
		t.Errorf("P2: the text hangs on the flags handed in: %q", text)
	}
}

func TestNoTextIsWrittenInto(t *testing.T) {
	for _, s := range []string{"inbox", "=41==2d=1", "Été", "\xff", withSum("1 100\n1 1 adfs\n"), "1 1\n0\n"} {
		bytes := []byte(s + "spare")
		handed := unsafe.String(unsafe.SliceData(bytes), len(s))
		mailbag.Encode(handed)
		mailbag.Decode(handed)
		mailbag.Read(handed)
		if string(bytes) != s+"spare" {
			t.Errorf("P2: %q was written into: %q", s, bytes)
		}
	}
}
