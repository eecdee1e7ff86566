package mailbag_test

import (
	"math/rand"
	"strconv"
	"strings"
	"testing"

	"mailbag/api"
	"mailbag/mailbag"
)

const empty = "1 1\n57398\n"

func TestOpen(t *testing.T) {
	for _, c := range []struct{ files, want []api.File }{
		{nil, nil},
		{[]api.File{}, nil},
		{f("in/list", empty), f("in/list", empty)},
		{f("in/3.f", "m", "in/list", empty), f("in/3.f", "m", "in/list", withSum("1 2\n3 1 f\n"))},
		{f("in/3.f", "m", "in/list", "?"), f("in/3.f", "m", "in/list", withSum("1 2\n3 1 f\n"))},
		{f("in/3.f", "m", "in/list", "?", "epoch/5", ""), f("epoch/5", "", "in/3.f", "m", "in/list", withSum("6 2\n3 1 f\n"))},
		// Entries without a message are gone, and their UIDs are not given anew.
		{f("in/list", withSum("4 9\n1 3 s\n2 8 -\n")), f("in/list", withSum("4 9\n"))},
		{f("in/list", withSum("4 9\n1 3 s\n2 8 -\n"), "in/1.", "x"), f("in/1.", "x", "in/list", withSum("4 9\n1 3 s\n"))},
		// The list's flags hold, but the file keeps its name.
		{f("in/list", withSum("4 9\n1 3 s\n"), "in/1.ad", ""), f("in/1.ad", "", "in/list", withSum("4 9\n1 3 s\n"))},
		{f("in/list", withSum("4 9\n1 3 -\n"), "in/1.ad", ""), f("in/1.ad", "", "in/list", withSum("4 9\n1 3 -\n"))},
		// Keys rise as numbers, not as texts.
		{f("in/list", empty, "in/10.", "x", "in/9.a", "y", "in/100.", "z"), f("in/10.", "x", "in/100.", "z", "in/9.a", "y", "in/list", withSum("1 4\n9 1 a\n10 2 -\n100 3 -\n"))},
		{f("in/list", "", "in/10.", "x", "in/9.a", "y", "in/100.", "z"), f("in/10.", "x", "in/100.", "z", "in/9.a", "y", "in/list", withSum("1 4\n9 1 a\n10 2 -\n100 3 -\n"))},
		// UIDs, not keys, order the messages that the list has.
		{f("in/list", withSum("2 5\n7 1 a\n3 4 d\n"), "in/3.", "x", "in/7.", "y", "in/5.", "z"), f("in/3.", "x", "in/5.", "z", "in/7.", "y", "in/list", withSum("2 6\n7 1 a\n3 4 d\n5 5 -\n"))},
		// A folder may be called epoch.
		{f("epoch/list", empty, "epoch/3", "", "epoch/3.", "m"), f("epoch/3", "", "epoch/3.", "m", "epoch/list", withSum("1 2\n3 1 -\n"))},
	} {
		wantOpen(t, c.files, c.want)
		if !wantAsRead(t, c.files) {
			t.Errorf("the test's own reading of %q is that it is wrong", c.files)
		}
	}
}

func TestEpochsOfBrokenLists(t *testing.T) {
	for _, c := range []struct{ files, want []api.File }{
		{f("b/list", "", "a/list", "?"), f("a/list", empty, "b/list", withSum("2 1\n"))},
		// By codes, though the files come in another order, and other lists stand between.
		{f("c/list", "?", "b/list", withSum("7 1\n"), "a/list", "?", "=c9=/list", "?"), f("=c9=/list", withSum("8 1\n"), "a/list", withSum("9 1\n"), "b/list", withSum("7 1\n"), "c/list", withSum("10 1\n"))},
		{f("a/list", "?", "ab/list", "?", "a0/list", "?"), f("a/list", empty, "a0/list", withSum("2 1\n"), "ab/list", withSum("3 1\n"))},
		{f("in/list", "?", "epoch/5", "", "b/list", withSum("3 1\n")), f("b/list", withSum("3 1\n"), "epoch/5", "", "in/list", withSum("6 1\n"))},
		// A file that is no epoch's counts for nothing.
		{f("in/list", "?", "epoch/100", "", "epoch/07", "", "epoch/7.tmp", ""), f("epoch/07", "", "epoch/100", "", "in/list", empty)},
		// Nor does the epoch of a broken list: neither one of a wrong sum, nor one whose UIDs do not reach.
		{f("in/list", "5 1\n0\n"), f("in/list", empty)},
		{f("in/list", withSum("5 99\n"), "in/1.", "a", "in/2.s", "b"), f("in/1.", "a", "in/2.s", "b", "in/list", withSum("1 3\n1 1 -\n2 2 s\n"))},
		// The last epoch may be given.
		{f("in/list", "?", "epoch/98", ""), f("epoch/98", "", "in/list", withSum("99 1\n"))},
		{f("in/list", "?", "a/list", withSum("97 1\n"), "b/list", "?"), f("a/list", withSum("97 1\n"), "b/list", withSum("98 1\n"), "in/list", withSum("99 1\n"))},
		{f("in/list", withSum("99 1\n"), "epoch/99", ""), f("epoch/99", "", "in/list", withSum("99 1\n"))},
	} {
		wantOpen(t, c.files, c.want)
	}
	refuseOpen(t, f("in/list", "?", "epoch/99", ""))
	refuseOpen(t, f("in/list", "?", "a/list", withSum("99 1\n")))
	refuseOpen(t, f("in/list", "?", "a/list", withSum("98 1\n"), "b/list", "?"))
	refuseOpen(t, f("a/list", "?", "b/list", "?", "c/list", "?", "d/list", "?", "epoch/96", ""))
}

func TestUidsThatAreLeft(t *testing.T) {
	for next := 90; next <= 100; next++ {
		for count := range api.MaxMessages + 1 {
			files := join(f("in/list", withSum("3 "+strconv.Itoa(next)+"\n")), many(count, "in/#.s"), f("epoch/2", ""))
			want, first := "3 ", next
			if next+count-1 > 99 {
				first = 1
			}
			want += strconv.Itoa(first+count) + "\n"
			for i := range count {
				want += strconv.Itoa(i+1) + " " + strconv.Itoa(first+i) + " s\n"
			}
			wantOpen(t, files, join(f("epoch/2", ""), many(count, "in/#.s"), f("in/list", withSum(want))))
		}
	}
	// Messages that the list has need no UID.
	wantOpen(t, f("in/list", withSum("4 99\n1 98 -\n"), "in/1.", "", "in/2.", ""), f("in/1.", "", "in/2.", "", "in/list", withSum("4 100\n1 98 -\n2 99 -\n")))
	wantOpen(t, f("in/list", withSum("4 100\n1 98 -\n2 99 -\n"), "in/1.", "", "in/2.", ""), f("in/1.", "", "in/2.", "", "in/list", withSum("4 100\n1 98 -\n2 99 -\n")))
}

func TestEpochsFiles(t *testing.T) {
	for _, c := range []struct{ files, want []api.File }{
		{f("epoch/1", ""), f("epoch/1", "")},
		{f("epoch/99", ""), f("epoch/99", "")},
		{f("epoch/7", "x"), f("epoch/7", "")},
		{f("epoch/2", "", "epoch/10", ""), f("epoch/10", "")},
		{f("epoch/2", "x", "epoch/10", "y", "epoch/9", ""), f("epoch/10", "")},
		{f("epoch/10", "", "epoch/9", "x", "epoch/8", "x"), f("epoch/10", "")},
		{f("epoch/1", strings.Repeat("x", api.MaxData)), f("epoch/1", "")},
		// Its number stays, though a list has a greater one.
		{f("epoch/2", "", "in/list", withSum("6 1\n")), f("epoch/2", "", "in/list", withSum("6 1\n"))},
		{f("epoch/0", "x", "epoch/", "", "epoch/01", "", "epoch/1.", "", "epoch/+1", "", "Epoch/1", "", "epoch/1/1", ""), f("Epoch/1", "", "epoch/", "", "epoch/+1", "", "epoch/0", "x", "epoch/01", "", "epoch/1/1", "")},
	} {
		wantOpen(t, c.files, c.want)
	}
}

func TestWhatStaysAndWhatGoes(t *testing.T) {
	for _, name := range []string{
		"", " ", "/", ".", "other", "in", "in/", "in/lis", "in/lists", "in//list", "/list", "list", "in/list/", "in/list ", " in/list", "in/List", "A/list", "=61=/list", "=41/list", "nineninin/list",
		"in/1", "in/1.-", "in/1.sd", "in/1.ss", "in/1.b", "in/1.s.", "in/1.s ", "in/0.", "in/01.", "in/+1.", "in/-1.", "in/1000.", "in/999999999999999999999.", "in/.", "in/.s", "in/1 .", "in//1.", "in/x/1.", "A/1.", "/1.", "1.", "in/1,", "in/١.",
		"tmp", "in/1.tm", "in/tmp", "x.TMP", "x.tmp ", "x.tmp/", "\xff", "\x00", "in/1\n.", strings.Repeat("x", 100000),
	} {
		wantOpen(t, f(name, "o", "in/list", empty), ordered(name, "o", "in/list", empty))
		wantOpen(t, f(name, strings.Repeat("o", api.MaxData)), f(name, strings.Repeat("o", api.MaxData)))
	}
	for _, name := range []string{".tmp", "x.tmp", "in/list.tmp", "in/1.tmp", "in/1..tmp", "draft.tmp", "epoch/1.tmp", "in/.tmp", "\xff.tmp", "/.tmp", "a.tmp.tmp", strings.Repeat("x", 100000) + ".tmp"} {
		wantOpen(t, f(name, strings.Repeat("o", api.MaxData), "in/list", empty), f("in/list", empty))
	}
	for _, name := range []string{"out/1.", "out/999.adfs", "=c9=/1.", "i/1.", "inn/1.", "=69=n/1.", "epoch/1."} {
		want := f("in/list", empty)
		if name == "=69=n/1." { // no code
			want = ordered(name, "o", "in/list", empty)
		}
		wantOpen(t, f(name, "o", "in/list", empty), want)
	}
	// Messages without a folder may have one key twice, and be many.
	wantOpen(t, f("out/1.", "a", "out/1.s", "b"), nil)
	wantOpen(t, join(many(30, "out/#."), many(30, "#.tmp"), f("in/list", empty)), f("in/list", empty))
}

func ordered(words ...string) []api.File {
	s := state{others: f(words...)}
	return s.inOrder()
}

func TestEveryMessagesName(t *testing.T) {
	for key := 1; key <= api.MaxKey; key++ {
		for _, flags := range everyFlags {
			if key%50 != 1 && flags != "" {
				continue
			}
			told := flags
			if flags == "" {
				told = "-"
			}
			name := "in/" + strconv.Itoa(key) + "." + flags
			wantOpen(t, f(name, "m", "in/list", empty), f(name, "m", "in/list", withSum("1 2\n"+strconv.Itoa(key)+" 1 "+told+"\n")))
		}
	}
}

func TestEveryNameOfPieces(t *testing.T) {
	t.Parallel()
	names := []string{""}
	right := 0
	for range 4 {
		var longer []string
		for _, s := range names {
			for _, piece := range []string{"in", "/", "list", ".", "1", "0", "a", "s", "epoch", ".tmp", "=", "e9", "É"} {
				longer = append(longer, s+piece)
			}
		}
		names = longer
		for _, name := range names {
			if name != "in/list" && wantAsRead(t, f(name, "m", "in/list", empty)) {
				right++
			}
			wantAsRead(t, f(name, "m"))
		}
	}
	if right < 1000 {
		t.Errorf("only %d of the disks were right", right)
	}
}

func TestWrongDisks(t *testing.T) {
	in := f("in/list", empty)
	long, text := strings.Repeat("x", api.MaxData), strings.Repeat("x", api.MaxText)
	wantOpen(t, many(9, "other#"), many(9, "other#"))
	for _, c := range []struct {
		files []api.File
		right bool
	}{
		{many(api.MaxFiles, "other#"), true},
		{many(api.MaxFiles+1, "other#"), false},
		{many(1000, "other#"), false},
		// Only other files are counted.
		{join(many(api.MaxFiles, "other#"), in, many(8, "in/#."), many(5, "#.tmp"), many(5, "epoch/#"), many(5, "out/#.")), true},
		{join(many(api.MaxFiles+1, "other#"), in), false},
		{join(many(api.MaxFiles, "other#"), many(1, "in/0#.")), false},
		{f("a", "", "a", ""), false},
		{f("a", "", "b", "", "a", "x"), false},
		{f("", "", "", ""), false},
		{f("a.tmp", "", "a.tmp", ""), false},
		{f("in/list", empty, "in/list", empty), false},
		{f("in/1.", "", "in/1.", "", "in/list", empty), false},
		{f("out/1.", "", "out/1.", ""), false},
		{f("epoch/1", "", "epoch/1", ""), false},
		{f("a", "", "A", ""), true},
		{f("a", long), true},
		{f("a", long+"x"), false},
		{f("a.tmp", long), true},
		{f("a.tmp", long+"x"), false},
		{f("in/list", long), true},
		{f("in/list", long+"x"), false},
		{f("epoch/1", long+"x"), false},
		{f("in/1.", text, "in/list", empty), true},
		{f("in/1.", text+"x", "in/list", empty), false},
		{f("out/1.", text), true},
		{f("out/1.", text+"x"), false},
		{f("in/1.", text+"x", "in/list", "?"), false},
		{many(4, "a#/list"), true},
		{many(5, "a#/list"), false},
		{join(many(4, "a#/list"), f("A/list", "", "/list", "")), true},
		{join(many(8, "in/#."), in), true},
		{join(many(9, "in/#."), in), false},
		{join(many(9, "in/#."), f("in/list", "?")), false},
		{join(many(9, "in/#.")), true},
		{join(many(8, "in/#."), many(8, "a/#."), in, f("a/list", empty)), true},
		{join(many(999, "in/#."), in), false},
		{f("in/1.a", "", "in/1.d", "", "in/list", empty), false},
		{f("in/1.a", "", "in/1.", "", "in/list", "?"), false},
		{f("in/1.a", "", "in/1.d", ""), true},
		{f("in/1.a", "", "a/1.a", "", "in/list", empty, "a/list", empty), true},
		{f("in/1.a", "", "in/1.sa", "", "in/list", empty), true},
	} {
		if right := wantAsRead(t, c.files); right != c.right {
			t.Errorf("the test's own reading of %q is %v, want %v", c.files, right, c.right)
		}
	}
}

func TestRandomDisks(t *testing.T) {
	t.Parallel()
	rng := rand.New(rand.NewSource(7))
	right := 0
	const all = 20000
	for range all {
		if wantAsRead(t, randomDisk(rng)) {
			right++
		}
	}
	if right < all/4 || right > all*19/20 {
		t.Errorf("%d of %d disks were right", right, all)
	}
}

func TestOpenOfADiskInOrder(t *testing.T) {
	rng := rand.New(rand.NewSource(8))
	for range 2000 {
		s, ok := stateOf(randomDisk(rng))
		if !ok {
			continue
		}
		disk := s.inOrder()
		wantOpen(t, disk, disk)
		again, _ := stateOf(disk)
		if again.lasting() != s.lasting() {
			t.Errorf("the test's own readings differ: %s, then %s", s.lasting(), again.lasting())
		}
	}
}

func FuzzOpen(f *testing.F) {
	f.Add("in/list\x00" + empty + "\x00in/1.s\x00hi\x00epoch/3\x00x\x00w.tmp\x00")
	f.Add("in/list\x00?\x00a/list\x00" + withSum("4 9\n1 3 s\n2 8 -\n") + "\x00a/2.d\x00b\x00out/1.\x00")
	f.Fuzz(func(t *testing.T, s string) {
		words := strings.Split(s, "\x00")
		if len(words)%2 == 1 {
			words = append(words, "")
		}
		var files []api.File
		for i := 0; i < len(words); i += 2 {
			files = append(files, api.File{Name: words[i], Data: words[i+1]})
		}
		wantAsRead(t, files)
	})
}

func TestOrderOfFilesHandedIn(t *testing.T) {
	rng := rand.New(rand.NewSource(9))
	for range 300 {
		files := randomDisk(rng)
		s, _, errno := mailbag.Open(files)
		for range 5 {
			rng.Shuffle(len(files), func(i, j int) { files[i], files[j] = files[j], files[i] })
			other, _, errnoOther := mailbag.Open(files)
			if errno != errnoOther {
				t.Fatalf("P7: Open of the same files in another order is %d, was %d", errnoOther, errno)
			}
			if errno == api.OK && !sameFiles(s.Files(), other.Files()) {
				t.Fatalf("P8: of the same files in another order %q, was %q", other.Files(), s.Files())
			}
		}
	}
}
