package mailbag_test

import (
	"fmt"
	"math/rand"
	"slices"
	"strconv"
	"strings"
	"testing"

	"mailbag/api"
	"mailbag/mailbag"
)

// everyCrash hands on each disk that a crash may leave behind any number of the first acts, with that number: each once, and once more behind them all.
func everyCrash(t *testing.T, files []api.File, acts []api.Act, see func(done int, left []api.File)) {
	t.Helper()
	d := newDisk(files)
	seen := map[string]int{}
	for done := range len(acts) + 1 {
		if done > 0 {
			d.do(t, acts[done-1:done])
		}
		for _, left := range d.crashes() {
			key := fmt.Sprintf("%q", left)
			if seen[key] == 0 || done == len(acts) {
				see(done, left)
			}
			seen[key]++
		}
	}
}

// reopen: what the program makes of a disk that a crash left, which is to be what the document's words make of it.
func reopen(t *testing.T, left []api.File) (string, []api.Act) {
	t.Helper()
	s, acts, errno := mailbag.Open(left)
	if s == nil || errno != api.OK {
		t.Fatalf("P11: Open of what a crash left, %q, is %d", left, errno)
	}
	lasting := lastingOf(t, s.Files())
	if want := lastingOf(t, left); lasting != want {
		t.Fatalf("P7: Open of %q makes %s, want %s", left, lasting, want)
	}
	return lasting, acts
}

// crashOpen: wherever Open breaks off, the folders stay as they were; and once more when Open of what is left breaks off, to this depth.
func crashOpen(t *testing.T, files []api.File, want string, depth int) {
	t.Helper()
	_, acts := reopen(t, files)
	everyCrash(t, files, acts, func(done int, left []api.File) {
		t.Helper()
		got, _ := reopen(t, left)
		if got != want {
			t.Fatalf("P11: Open of %q does %+v: a crash behind %d of them leaves %q, which is %s, want %s", files, acts, done, left, got, want)
		}
		if depth > 1 {
			crashOpen(t, left, want, depth-1)
		}
	})
}

// crashDeliver: wherever Deliver breaks off, the folders are as they were or as they are to be; the disk is in order ahead of it.
func crashDeliver(t *testing.T, files []api.File, folder, text string, depth int) {
	t.Helper()
	s, _ := open(t, files)
	before := lastingOf(t, files)
	_, acts, errno := s.Deliver(folder, text)
	if errno != api.OK {
		t.Fatalf("P9: Deliver(%q, %q) is %d", folder, text, errno)
	}
	after := lastingOf(t, s.Files())
	if after == before {
		t.Fatalf("P9: Deliver(%q, %q) did nothing", folder, text)
	}
	seen := map[string]int{}
	everyCrash(t, files, acts, func(done int, left []api.File) {
		t.Helper()
		got, _ := reopen(t, left)
		if got != after && (got != before || done == len(acts)) {
			t.Fatalf("P11: on %q Deliver(%q, %q) does %+v: a crash behind %d of them leaves %q, which is %s, want %s or %s", files, folder, text, acts, done, left, got, before, after)
		}
		seen[got]++
		if depth > 0 {
			crashOpen(t, left, got, depth)
		}
	})
	if seen[before] == 0 || seen[after] == 0 {
		t.Errorf("P11: crashes of %+v are seen on one side only: %v", acts, seen)
	}
}

var disksToOpen = [][]api.File{
	nil,
	f("in/list", empty),
	f("in/3.f", "m", "in/list", empty),
	f("in/3.f", "m", "in/list", "?"),
	f("in/3.f", "m", "in/list", "?", "epoch/5", ""),
	f("in/list", withSum("4 9\n1 3 s\n2 8 -\n"), "in/2.d", "b", "in/7.", "c", "in/5.", "d"),
	// Broken lists, between others that are to be written anew.
	f("b/list", "?", "a/list", "?", "c/list", withSum("7 5\n1 1 -\n"), "epoch/3", "x", "epoch/2", ""),
	f("a/list", withSum("2 5\n1 1 -\n"), "b/list", "?", "c/list", withSum("3 4\n3 3 s\n"), "c/5.", "x", "d/list", "", "d/1.s", "y"),
	f("a/list", "", "b/list", "", "c/list", "", "d/list", ""),
	f("a/list", "", "b/list", "", "c/list", "", "d/list", "", "epoch/95", "x", "epoch/1", "y"),
	f("a/list", withSum("9 99\n"), "a/1.", "a", "a/2.", "b", "b/list", "?", "c/list", withSum("2 98\n"), "c/3.", "a", "c/4.", "b"),
	// The draft's name is there; so are others.
	f("draft.tmp", withSum("9 9\n"), "in/list", "?", "in/list.tmp", withSum("9 9\n"), "epoch/7", "x"),
	f("draft.tmp", "m", "in/list", empty, "in/1.", "m", "out/1.", "o", "out/1.s", "p", "a.tmp", "", "b.tmp", ""),
	// Several epochs' files, with bytes.
	f("epoch/1", "", "epoch/2", "x", "epoch/3", "y", "epoch/10", "z", "in/list", "?"),
	f("epoch/list", "?", "epoch/3", "x", "epoch/3.", "m", "epoch/2", "y", "other", "o"),
}

func TestCrashOfOpen(t *testing.T) {
	t.Parallel()
	for _, files := range disksToOpen {
		crashOpen(t, files, lastingOf(t, files), 2)
	}
}

func TestCrashOfOpenOfRandomDisks(t *testing.T) {
	t.Parallel()
	rng := rand.New(rand.NewSource(21))
	for range 800 {
		files := randomDisk(rng)
		if s, ok := stateOf(files); ok {
			crashOpen(t, files, s.lasting(), 1)
		}
	}
}

func TestCrashOfDeliver(t *testing.T) {
	t.Parallel()
	for _, files := range [][]api.File{
		f("in/list", empty),
		f("in/list", empty, "epoch/9", "", "other", "o", "out/list", withSum("3 100\n")),
		f("in/list", withSum("1 99\n")),
		f("in/list", withSum("99 98\n2 97 s\n"), "in/2.", "x"),
		f("in/list", withSum("1 8\n1 1 a\n2 2 -\n3 3 -\n5 4 -\n6 5 d\n7 6 -\n8 7 -\n"), "in/1.", "", "in/2.", "", "in/3.", "", "in/5.s", "", "in/6.", "", "in/7.", "", "in/8.", ""),
		f("epoch/list", empty, "in/list", withSum("7 3\n"), "epoch/1", "", "epoch/1.", "m"),
	} {
		for _, text := range []string{"", "x", "hello", strings.Repeat("\n", api.MaxText)} {
			state, _ := stateOf(files)
			crashDeliver(t, state.inOrder(), "in", text, 1)
		}
	}
	crashDeliver(t, f("in/list", empty), "in", "hi", 3)
}

func TestCrashOfDeliverOnRandomDisks(t *testing.T) {
	t.Parallel()
	rng := rand.New(rand.NewSource(22))
	done := 0
	for range 3000 {
		state, ok := stateOf(randomDisk(rng))
		fo, there := state.folders["in"]
		if ok && there && fo.next <= 99 && len(fo.messages) < 8 {
			crashDeliver(t, state.inOrder(), "in", strconv.Itoa(rng.Intn(1000)), 0)
			done++
		}
	}
	if done < 300 {
		t.Errorf("only %d disks had room", done)
	}
}

// A crash behind whole calls takes nothing: each is safe ahead of the next, and the next never harms it.
func TestCrashAmongDeliveries(t *testing.T) {
	files := f("in/list", withSum("1 95\n3 90 s\n"), "in/3.d", "old", "a/list", withSum("2 1\n"))
	state, _ := stateOf(files)
	files = state.inOrder()
	for _, name := range []string{"in", "a", "in", "a", "a", "in"} {
		text := fmt.Sprintf("text %d", len(files))
		crashDeliver(t, files, name, text, 1)
		s, d := open(t, files)
		_, acts, _ := s.Deliver(name, text)
		d.do(t, acts)
		files = d.files()
	}
}

// history is what was seen of a disk on which servers come and crash.
type history struct {
	acknowledged map[string]string // texts, by folder, epoch and UID
	next         map[string]int    // by folder and epoch
}

func (h *history) check(t *testing.T, files []api.File) {
	t.Helper()
	state, ok := stateOf(files)
	if !ok {
		t.Fatalf("P11: the disk is wrong: %q", files)
	}
	there := map[string]string{}
	for code, fo := range state.folders {
		epoch := fmt.Sprintf("%s %d", code, fo.epoch)
		if fo.next < h.next[epoch] {
			t.Fatalf("P12: the next UID of %s fell from %d to %d", epoch, h.next[epoch], fo.next)
		}
		h.next[epoch] = fo.next
		for _, m := range fo.messages {
			there[fmt.Sprintf("%s %d", epoch, m.uid)] = m.text
		}
	}
	for id, text := range h.acknowledged {
		if got, ok := there[id]; !ok || got != text {
			t.Fatalf("P12: the message %s was %q and is %q (%v): %q", id, text, got, ok, files)
		}
	}
	// What was seen once keeps its UID, as no message goes.
	h.acknowledged = there
}

func TestHistories(t *testing.T) {
	rng := rand.New(rand.NewSource(23))
	for run := range 300 {
		files := randomDisk(rng)
		if _, ok := stateOf(files); !ok {
			continue
		}
		h := &history{map[string]string{}, map[string]int{}}
		h.check(t, files)
		for range 12 {
			files = live(t, rng, h, files, run)
		}
	}
}

// live opens a disk, delivers some, crashes somewhere, and tells what is left.
func live(t *testing.T, rng *rand.Rand, h *history, files []api.File, run int) []api.File {
	t.Helper()
	s, acts, errno := mailbag.Open(files)
	if errno != api.OK {
		t.Fatalf("P11: Open of %q is %d", files, errno)
	}
	d := newDisk(files)
	for calls := 0; ; calls++ {
		if rng.Intn(3) == 0 {
			d.do(t, acts[:rng.Intn(len(acts)+1)])
			crashes := d.crashes()
			left := crashes[rng.Intn(len(crashes))]
			h.check(t, left)
			return left
		}
		d.do(t, acts)
		h.check(t, d.files())
		names := []string{"in", "a", "ab", "É", "epoch", "0"}
		_, acts, _ = s.Deliver(names[rng.Intn(len(names))], fmt.Sprintf("%d %d", run, rng.Intn(1000)))
	}
}

// The disk of these tests crashes in every way that the document names.
func TestTheDisksCrashes(t *testing.T) {
	make, add, sync := api.Act{Kind: api.ActMake, Name: "a"}, api.Act{Kind: api.ActAdd, Name: "a", Data: "xy"}, api.Act{Kind: api.ActSync, Name: "a"}
	move, drop, settle := api.Act{Kind: api.ActMove, Name: "a", To: "b"}, api.Act{Kind: api.ActDrop, Name: "b"}, api.Act{Kind: api.ActSettle}
	for _, c := range []struct {
		files []api.File
		acts  []api.Act
		want  []string
	}{
		{nil, []api.Act{make, add}, []string{"", "a=", "a=x", "a=xy"}},
		{nil, []api.Act{make, add, sync}, []string{"", "a=xy"}},
		{nil, []api.Act{make, settle, add}, []string{"a=", "a=x", "a=xy"}},
		{nil, []api.Act{make, add, sync, add, settle}, []string{"a=xy", "a=xyx", "a=xyxy"}},
		{f("b", "o"), []api.Act{make, add, sync, move}, []string{"a=xy b=o", "b=o", "b=xy"}},
		{f("a", "o"), []api.Act{move, make}, []string{"a=", "a= b=o", "a=o", "b=o"}},
		{f("a", "o", "b", "p"), []api.Act{drop, move}, []string{"a=o", "a=o b=p", "b=o"}},
	} {
		d := newDisk(c.files)
		d.do(t, c.acts)
		var got []string
		for _, left := range d.crashes() {
			var words []string
			for _, file := range left {
				words = append(words, file.Name+"="+file.Data)
			}
			got = append(got, strings.Join(words, " "))
		}
		slices.Sort(got)
		if !slices.Equal(got, c.want) {
			t.Errorf("crashes behind %+v leave %q, want %q", c.acts, got, c.want)
		}
	}
}
