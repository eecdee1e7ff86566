package mailbag_test

import (
	"fmt"
	"math/rand"
	"slices"
	"strings"
	"testing"
	"unsafe"

	"mailbag/api"
	"mailbag/mailbag"
)

// Files of every kind, on a disk that is not in order.
func motley() []api.File {
	return f("other", "o", "in/3.f", "m", "in/list", empty, "a/list", "?", "a/1.s", "n", "epoch/5", "x", "epoch/2", "", "w.tmp", "t", "out/1.", "p", "b/list", withSum("4 9\n7 8 s\n"), "b/7.d", "q")
}

// shakyFiles: files whose names and bytes the test can write over later.
func shakyFiles(files []api.File) ([]api.File, func()) {
	var out []api.File
	var spoils []func()
	for _, file := range files {
		name, spoilName := shaky(file.Name)
		data, spoilData := shaky(file.Data)
		out = append(out, api.File{Name: name, Data: data})
		spoils = append(spoils, spoilName, spoilData)
	}
	return out, func() {
		for _, spoil := range spoils {
			spoil()
		}
	}
}

func spoilFiles(files []api.File) {
	whole := files[:cap(files)]
	for i := range whole {
		whole[i] = api.File{Name: "spoilt", Data: "spoilt"}
	}
}

func spoilActs(acts []api.Act) {
	whole := acts[:cap(acts)]
	for i := range whole {
		whole[i] = api.Act{Kind: -1, Name: "spoilt", To: "spoilt", Data: "spoilt"}
	}
}

func TestOpenOfAnyLengthEnds(t *testing.T) {
	const n = 400000
	_, acts, errno := mailbag.Open(many(n, "#.tmp"))
	if len(acts) < n || errno != api.OK {
		t.Errorf("P7: Open of %d temporary files tells %d acts, %d", n, len(acts), errno)
	}
	refuseOpen(t, many(n, "other#"))
	refuseOpen(t, many(n, "in/list"))
	refuseOpen(t, make([]api.File, n))
	refuseOpen(t, append(many(n, "in/#x."), f("a", strings.Repeat("x", 5000000))...))
	for _, s := range []string{"a", "/", ".", "=", "1", "in/list", ".tmp", "epoch/", "\xff"} {
		long := strings.Repeat(s, 2000000)
		for _, name := range []string{long, long + ".tmp", long + "/list", "in/" + long + ".", "in/1." + long, "epoch/" + long, "in/" + long, long + "/1."} {
			if _, _, errno := mailbag.Open(f(name, "", "in/list", empty)); errno != api.OK {
				t.Errorf("P7: Open of a file with a long name of %q is %d", s, errno)
			}
		}
		refuseOpen(t, f("in/list", long))
	}
}

func TestOpenLeavesTheFilesAlone(t *testing.T) {
	spare := api.File{Name: "spare", Data: "spare"}
	for _, wrong := range []string{"", "other"} {
		room := join(motley(), f(wrong, ""), []api.File{spare, spare, spare})
		before := slices.Clone(room)
		handed := room[:len(room)-3]
		s, acts, _ := mailbag.Open(handed)
		if s != nil {
			s.Deliver("in", "x")
			spoilFiles(s.Files())
		}
		spoilActs(acts)
		if !slices.Equal(room, before) {
			t.Errorf("P2: Open wrote into the files: %q, was %q", room, before)
		}
	}
}

func TestNoFileIsKept(t *testing.T) {
	handed, spoil := shakyFiles(motley())
	s, acts, errno := mailbag.Open(handed)
	if errno != api.OK {
		t.Fatal(errno)
	}
	spoil()
	spoilFiles(handed)
	d := newDisk(motley())
	d.do(t, acts)
	want, _ := stateOf(motley())
	wantDisk(t, s, d, want.inOrder())
	deliver(t, s, d, "b", "x", 9)
	deliver(t, s, d, "a", "y", 2)
	wantDisk(t, s, d, d.files())
}

func TestNoFileIsWrittenInto(t *testing.T) {
	for _, file := range motley() {
		name, data := []byte(file.Name+"spare"), []byte(file.Data+"spare")
		handed := api.File{Name: unsafe.String(unsafe.SliceData(name), len(file.Name)), Data: unsafe.String(unsafe.SliceData(data), len(file.Data))}
		s, _, _ := mailbag.Open([]api.File{handed})
		s.Deliver(handed.Name, handed.Data)
		if string(name) != file.Name+"spare" || string(data) != file.Data+"spare" {
			t.Errorf("P2: %q was written into: %q, %q", file, name, data)
		}
	}
}

func TestNoDeliveryIsKept(t *testing.T) {
	s, d := open(t, f("in/list", empty))
	name, spoilName := shaky("in")
	text, spoilText := shaky("hello")
	_, acts, errno := s.Deliver(name, text)
	if errno != api.OK {
		t.Fatal(errno)
	}
	spoilName()
	spoilText()
	d.do(t, acts)
	wantDisk(t, s, d, f("in/1.", "hello", "in/list", withSum("1 2\n1 1 -\n")))
	deliver(t, s, d, "in", "again", 2)
	wantDisk(t, s, d, f("in/1.", "hello", "in/2.", "again", "in/list", withSum("1 3\n1 1 -\n2 2 -\n")))
}

func TestWhatComesOutIsNew(t *testing.T) {
	calm, d := open(t, motley())
	rough, acts, _ := mailbag.Open(motley())
	spoilActs(acts)
	for i := range 20 {
		name := []string{"in", "a", "b", "out"}[i%4]
		spoilFiles(rough.Files())
		_ = append(rough.Files(), f("more", "more")...)
		text := fmt.Sprintf("text %d", i)
		uid, acts, errno := calm.Deliver(name, text)
		d.do(t, acts)
		uidRough, actsRough, errnoRough := rough.Deliver(name, text)
		if uid != uidRough || errno != errnoRough || !slices.Equal(acts, actsRough) {
			t.Fatalf("P2: what came out was written into, and Deliver answers %d, %v, %d, want %d, %v, %d", uidRough, actsRough, errnoRough, uid, acts, errno)
		}
		spoilActs(actsRough)
		_ = append(actsRough, api.Act{})
		wantDisk(t, rough, d, calm.Files())
	}
}

// The lists of two answers share no memory, nor their spare room.
func TestAnswersShareNothing(t *testing.T) {
	s, _ := open(t, f("in/list", empty, "other", "o"))
	first, second := s.Files(), s.Files()
	want := slices.Clone(second)
	spoilFiles(first)
	if !sameFiles(second, want) {
		t.Errorf("P2: one answer of Files hangs on another: %q, want %q", second, want)
	}
	for count := range 9 {
		s, _ := open(t, join(many(count, "other#"), f("x/list", empty)[:count%2]))
		first, second := s.Files(), s.Files()
		want := slices.Clone(second)
		spoilFiles(first)
		if !sameFiles(second, want) || !sameFiles(s.Files(), want) {
			t.Errorf("P2: one answer of Files hangs on another: %q, then %q, want %q", second, s.Files(), want)
		}
	}
	_, one, _ := s.Deliver("in", "a")
	wantOne := slices.Clone(one)
	_, two, _ := s.Deliver("in", "b")
	spoilActs(two)
	if !slices.Equal(one, wantOne) {
		t.Errorf("P2: one answer of Deliver hangs on another: %v, want %v", one, wantOne)
	}
}

func TestServersHaveNothingToDoWithOneAnother(t *testing.T) {
	rng := rand.New(rand.NewSource(31))
	files := motley()
	var servers []*mailbag.Server
	var disks []*disk
	for range 4 {
		s, d := open(t, files)
		servers, disks = append(servers, s), append(disks, d)
	}
	for i := range 60 {
		k := rng.Intn(3)
		_, acts, _ := servers[k].Deliver(pick(rng, "in", "a", "b"), fmt.Sprintf("text %d", i))
		disks[k].do(t, acts)
		for j, s := range servers {
			wantDisk(t, s, disks[j], disks[j].files())
		}
	}
	untouched, _ := stateOf(files)
	wantDisk(t, servers[3], disks[3], untouched.inOrder())
}
