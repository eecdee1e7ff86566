package mailbag_test

import (
	"math/rand"
	"strconv"
	"strings"
	"testing"

	"mailbag/api"
	"mailbag/mailbag"
)

// deliver: a call that is to be OK; its acts are done.
func deliver(t *testing.T, s *mailbag.Server, d *disk, folder, text string, uid int) {
	t.Helper()
	got, acts, errno := s.Deliver(folder, text)
	if got != uid || errno != api.OK {
		t.Fatalf("P9: Deliver(%q, %q) = %d, %d, want %d, OK", folder, text, got, errno, uid)
	}
	d.do(t, acts)
}

// refuseDeliver: a call that is to be refused, and to change nothing.
func refuseDeliver(t *testing.T, s *mailbag.Server, folder, text string, want api.Errno) {
	t.Helper()
	before := s.Files()
	uid, acts, errno := s.Deliver(folder, text)
	if uid != 0 || acts != nil || errno != want {
		t.Errorf("P9: Deliver(%.40q, %.60q) = %d, %v, %d, want nothing, %d", folder, text, uid, acts, errno, want)
	}
	if after := s.Files(); !sameFiles(before, after) {
		t.Errorf("P1: Deliver(%.40q, %.60q) was refused, but changed %q into %q", folder, text, before, after)
	}
}

func TestDeliver(t *testing.T) {
	s, d := open(t, f("in/list", empty, "=c9=t=e9=/list", withSum("3 50\n")))
	deliver(t, s, d, "in", "hi", 1)
	wantDisk(t, s, d, f("=c9=t=e9=/list", withSum("3 50\n"), "in/1.", "hi", "in/list", withSum("1 2\n1 1 -\n")))
	deliver(t, s, d, "Été", "", 50)
	wantDisk(t, s, d, f("=c9=t=e9=/1.", "", "=c9=t=e9=/list", withSum("3 51\n1 50 -\n"), "in/1.", "hi", "in/list", withSum("1 2\n1 1 -\n")))
	deliver(t, s, d, "in", "hi", 2)
	deliver(t, s, d, "in", "\x00\n\xff", 3)
	wantDisk(t, s, d, f("=c9=t=e9=/1.", "", "=c9=t=e9=/list", withSum("3 51\n1 50 -\n"), "in/1.", "hi", "in/2.", "hi", "in/3.", "\x00\n\xff", "in/list", withSum("1 4\n1 1 -\n2 2 -\n3 3 -\n")))
}

func TestTextsOfEachLength(t *testing.T) {
	for n := range api.MaxText + 3 {
		text := strings.Repeat("\n", n)
		s, d := open(t, f("in/list", empty))
		if n > api.MaxText {
			refuseDeliver(t, s, "in", text, api.ErrLong)
			continue
		}
		deliver(t, s, d, "in", text, 1)
		wantDisk(t, s, d, f("in/1.", text, "in/list", withSum("1 2\n1 1 -\n")))
	}
}

func TestTheLeastKey(t *testing.T) {
	for _, c := range []struct {
		list, keys string
		want       int
	}{
		{"1 9\n1 3 -\n2 5 -\n", "1 2", 3},
		{"1 9\n2 3 -\n1 5 -\n", "1 2", 3},
		{"1 9\n2 3 -\n3 5 -\n", "2 3", 1},
		{"1 9\n5 3 -\n1 4 -\n3 5 -\n", "5 1 3", 2},
		{"1 9\n999 3 -\n", "999", 1},
		{"1 9\n1 3 -\n", "", 1},
		{"1 9\n1 3 -\n2 4 -\n", "2", 1},
		{"1 9\n1 1 -\n2 2 -\n3 3 -\n4 4 -\n5 5 -\n6 6 -\n7 7 -\n", "1 2 3 4 5 6 7", 8},
	} {
		files := f("in/list", withSum(c.list))
		for _, key := range strings.Fields(c.keys) {
			files = append(files, api.File{Name: "in/" + key + ".", Data: "old"})
		}
		s, d := open(t, files)
		deliver(t, s, d, "in", "new", 9)
		state, _ := stateOf(files)
		folder := state.folders["in"]
		folder.takeIn(map[int]message{c.want: {key: c.want, text: "new"}})
		state.folders["in"] = folder
		wantDisk(t, s, d, state.inOrder())
	}
}

func TestDeliverRefuses(t *testing.T) {
	long := strings.Repeat("x", api.MaxText+1)
	full := join(f("in/list", empty), many(8, "in/#."))
	last := f("last/list", withSum("2 100\n"), "end/list", withSum("3 99\n"))
	s, d := open(t, join(full, last, f("=41=/list", withSum("4 1\n"))))
	refuseDeliver(t, s, "in", "x", api.ErrFull)
	refuseDeliver(t, s, "in", "", api.ErrFull)
	refuseDeliver(t, s, "last", "x", api.ErrFull)
	deliver(t, s, d, "end", "x", 99)
	refuseDeliver(t, s, "end", "x", api.ErrFull)
	// A text that is too long comes first, then a folder that is not there.
	for _, name := range []string{"in", "last", "out", "", "A"} {
		refuseDeliver(t, s, name, long, api.ErrLong)
		refuseDeliver(t, s, name, strings.Repeat(long, 100000), api.ErrLong)
	}
	// A folder is called by its name, not by its code.
	deliver(t, s, d, "A", "x", 1)
	for _, name := range []string{"out", "", "=41=", "a", "In", "in ", " in", "in/", "in/list", "i", "inn", "i\xff", "\xff", "A\x00", "en", "ends", strings.Repeat("in", 1000000)} {
		refuseDeliver(t, s, name, "x", api.ErrFolder)
	}
	none, _ := open(t, nil)
	refuseDeliver(t, none, "in", "x", api.ErrFolder)
	refuseDeliver(t, none, "", "", api.ErrFolder)
	// Messages without a list make no folder.
	loose, _ := open(t, f("in/1.", "x"))
	refuseDeliver(t, loose, "in", "x", api.ErrFolder)
}

func TestDeliverUntilFull(t *testing.T) {
	for next := 88; next <= 100; next++ {
		s, d := open(t, f("in/list", withSum("5 "+strconv.Itoa(next)+"\n"), "other", "o"))
		uid := next
		for uid <= 99 && uid < next+8 {
			deliver(t, s, d, "in", "m"+strconv.Itoa(uid), uid)
			uid++
		}
		refuseDeliver(t, s, "in", "x", api.ErrFull)
		want, _ := stateOf(d.files())
		if fo := want.folders["in"]; fo.next != uid || len(fo.messages) != uid-next {
			t.Errorf("P9: from %d on: %v", next, fo)
		}
		wantDisk(t, s, d, want.inOrder())
	}
}

func leastKey(fo folder) int {
	taken := map[int]int{}
	for _, m := range fo.messages {
		taken[m.key]++
	}
	for key := range 999 {
		if taken[key+1] == 0 {
			return key + 1
		}
	}
	return 0
}

// Every call on disks of all kinds, by the document's words.
func TestDeliverOnRandomDisks(t *testing.T) {
	rng := rand.New(rand.NewSource(11))
	counts := map[api.Errno]int{}
	for range 3000 {
		files := randomDisk(rng)
		want, ok := stateOf(files)
		if !ok {
			continue
		}
		s, d := open(t, files)
		for range 6 {
			code := pick(rng, "in", "a", "ab", "=c9=", "epoch", "0", "=c8=")
			name, _ := nameOf(code)
			text := strings.Repeat("t", rng.Intn(42))
			fo, there := want.folders[code]
			errno := api.OK
			switch {
			case len(text) > 40:
				errno = api.ErrLong
			case !there:
				errno = api.ErrFolder
			case len(fo.messages) == 8 || fo.next > 99:
				errno = api.ErrFull
			}
			counts[errno]++
			if errno != api.OK {
				refuseDeliver(t, s, name, text, errno)
				continue
			}
			deliver(t, s, d, name, text, fo.next)
			key := leastKey(fo)
			fo.takeIn(map[int]message{key: {key: key, text: text}})
			want.folders[code] = fo
			wantDisk(t, s, d, want.inOrder())
		}
	}
	for _, errno := range []api.Errno{api.OK, api.ErrLong, api.ErrFolder, api.ErrFull} {
		if counts[errno] < 50 {
			t.Errorf("only %d calls were answered by %d", counts[errno], errno)
		}
	}
}
