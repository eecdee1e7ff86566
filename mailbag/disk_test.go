package mailbag_test

import (
	"fmt"
	"maps"
	"math/rand"
	"regexp"
	"slices"
	"strconv"
	"strings"
	"testing"

	"mailbag/api"
	"mailbag/mailbag"
)

// A disk that does acts and crashes, as the document's part 'What a crash leaves' says.
type disk struct {
	now, sure map[string]*node
	since     []change // of names, behind the last ActSettle
}

type node struct {
	data string
	safe int
}

type change struct {
	act  api.Act
	made *node
}

func newDisk(files []api.File) *disk {
	d := &disk{now: map[string]*node{}}
	for _, f := range files {
		d.now[f.Name] = &node{f.Data, len(f.Data)}
	}
	d.sure = maps.Clone(d.now)
	return d
}

func (d *disk) do(t *testing.T, acts []api.Act) {
	t.Helper()
	for i, a := range acts {
		if !d.doOne(a) {
			t.Fatalf("P8: act %d is wrong: %+v of %+v", i, a, acts)
		}
	}
}

func (d *disk) doOne(a api.Act) bool {
	if a.Kind == api.ActSettle {
		d.sure, d.since = maps.Clone(d.now), nil
		return true
	}
	n := d.now[a.Name]
	if (n == nil) != (a.Kind == api.ActMake) {
		return false
	}
	switch a.Kind {
	case api.ActMake:
		n = &node{}
		d.now[a.Name] = n
	case api.ActAdd:
		n.data += a.Data
		return len(n.data) <= api.MaxData
	case api.ActSync:
		n.safe = len(n.data)
		return true
	case api.ActMove:
		delete(d.now, a.Name)
		d.now[a.To] = n
	case api.ActDrop:
		delete(d.now, a.Name)
	default:
		return false
	}
	d.since = append(d.since, change{a, n})
	return true
}

func (d *disk) files() []api.File {
	return filesOf(d.now, func(n *node) string { return n.data })
}

// crashes: every disk that a crash may leave now, each once; of very many some.
func (d *disk) crashes() [][]api.File {
	var out [][]api.File
	seen := map[string]int{}
	rng := rand.New(rand.NewSource(1))
	count := 1 << min(len(d.since), 12)
	for i := range count {
		kept := i
		if len(d.since) > 12 && i > 0 && i < count-1 {
			kept = rng.Intn(1 << min(len(d.since), 30))
		} else if i == count-1 {
			kept = -1
		}
		names := d.left(kept)
		for bytes := 0; ; bytes++ {
			more := false
			files := filesOf(names, func(n *node) string {
				more = more || n.safe+bytes < len(n.data)
				return n.data[:min(n.safe+bytes, len(n.data))]
			})
			if key := fmt.Sprintf("%q", files); seen[key] == 0 {
				seen[key] = 1
				out = append(out, files)
			}
			if !more {
				break
			}
		}
	}
	return out
}

// left: the names behind a crash that keeps of the changes those whose bits are set.
func (d *disk) left(kept int) map[string]*node {
	names := maps.Clone(d.sure)
	for i, c := range d.since {
		n := names[c.act.Name]
		switch {
		case kept>>min(i, 62)&1 == 0:
		case c.act.Kind == api.ActMake:
			names[c.act.Name] = c.made
		case n == nil:
		case c.act.Kind == api.ActMove:
			delete(names, c.act.Name)
			names[c.act.To] = n
		default:
			delete(names, c.act.Name)
		}
	}
	return names
}

func filesOf(names map[string]*node, data func(*node) string) []api.File {
	var out []api.File
	for _, name := range slices.Sorted(maps.Keys(names)) {
		out = append(out, api.File{Name: name, Data: data(names[name])})
	}
	return out
}

// What a disk means, by the document's words, read by other means than the program's.
type state struct {
	folders map[string]folder // by their codes
	epoch   int
	mark    string // the name of the epoch's file, or nothing
	others  []api.File
}

type folder struct {
	epoch, next int
	messages    []message
}

type message struct {
	uid, key          int
	flags, came, text string
}

var messageShape = regexp.MustCompile(`^([^/]*)/([1-9][0-9]{0,2})\.(a?d?f?s?)$`)
var epochShape = regexp.MustCompile(`^epoch/([1-9][0-9]?)$`)

func isCode(code string) bool {
	_, ok := nameOf(code)
	return ok
}

// stateOf tells false if the disk is wrong.
func stateOf(files []api.File) (state, bool) {
	s := state{folders: map[string]folder{}}
	names := map[string]int{}
	texts := map[string]string{}
	messages := map[string]map[int]message{}
	ok, count := true, 0
	for _, f := range files {
		names[f.Name]++
		ok = ok && names[f.Name] == 1 && len(f.Data) <= 400
		code, isList := strings.CutSuffix(f.Name, "/list")
		m, e := messageShape.FindStringSubmatch(f.Name), epochShape.FindStringSubmatch(f.Name)
		switch {
		case strings.HasSuffix(f.Name, ".tmp"):
		case isList && isCode(code):
			texts[code] = f.Data
		case m != nil && isCode(m[1]):
			ok = ok && len(f.Data) <= 40
		case e != nil:
			if n := numbers(e[1:])[0]; n > s.epoch {
				s.epoch, s.mark = n, f.Name
			}
		default:
			count++
			s.others = append(s.others, f)
		}
	}
	for _, f := range files {
		m := messageShape.FindStringSubmatch(f.Name)
		if m == nil || strings.HasSuffix(f.Name, ".tmp") {
			continue
		}
		if _, there := texts[m[1]]; there {
			if messages[m[1]] == nil {
				messages[m[1]] = map[int]message{}
			}
			key := numbers(m[2:3])[0]
			_, twice := messages[m[1]][key]
			ok = ok && !twice
			messages[m[1]][key] = message{key: key, flags: m[3], came: m[3], text: f.Data}
			ok = ok && len(messages[m[1]]) <= 8
		}
	}
	return s, ok && count <= 20 && len(texts) <= 4 && s.number(texts, messages)
}

// number fills in the folders; it tells false if epochs do not reach.
func (s *state) number(texts map[string]string, messages map[string]map[int]message) bool {
	var broken []string
	for code, text := range texts {
		if f, ok := folderOf(text, messages[code]); ok {
			s.folders[code] = f
			s.epoch = max(s.epoch, f.epoch)
		} else {
			broken = append(broken, code)
		}
	}
	slices.Sort(broken)
	for _, code := range broken {
		s.epoch++
		f := folder{epoch: s.epoch, next: 1}
		f.takeIn(messages[code])
		s.folders[code] = f
	}
	return s.epoch <= 99
}

func (f *folder) takeIn(messages map[int]message) {
	for _, key := range slices.Sorted(maps.Keys(messages)) {
		m := messages[key]
		m.uid = f.next
		f.next++
		f.messages = append(f.messages, m)
	}
}

// folderOf tells false if the list is broken.
func folderOf(text string, messages map[int]message) (folder, bool) {
	rows := strings.SplitAfter(text, "\n")
	lines := strings.Join(rows[:max(len(rows)-2, 0)], "")
	l, ok := listOf(lines)
	if !ok || withSum(lines) != text {
		return folder{}, false
	}
	f := folder{epoch: l.Epoch, next: l.Next}
	missing := maps.Clone(messages)
	for _, e := range l.Entries {
		if m, there := missing[e.Key]; there {
			m.uid, m.flags = e.Uid, e.Flags
			f.messages = append(f.messages, m)
			delete(missing, e.Key)
		}
	}
	f.takeIn(missing)
	return f, f.next <= 100
}

// inOrder: the disk in order.
func (s state) inOrder() []api.File {
	out := slices.Clone(s.others)
	if s.mark != "" {
		out = append(out, api.File{Name: s.mark})
	}
	for code, f := range s.folders {
		lines := fmt.Sprintf("%d %d\n", f.epoch, f.next)
		for _, m := range f.messages {
			out = append(out, api.File{Name: fmt.Sprintf("%s/%d.%s", code, m.key, m.came), Data: m.text})
			told := m.flags
			if told == "" {
				told = "-"
			}
			lines += fmt.Sprintf("%d %d %s\n", m.key, m.uid, told)
		}
		out = append(out, api.File{Name: code + "/list", Data: withSum(lines)})
	}
	slices.SortFunc(out, func(a, b api.File) int { return strings.Compare(a.Name, b.Name) })
	return out
}

// lasting: what P11 says of a disk: no keys, no files.
func (s state) lasting() string {
	out := fmt.Sprintf("epoch %d", s.epoch)
	for _, code := range slices.Sorted(maps.Keys(s.folders)) {
		f := s.folders[code]
		out += fmt.Sprintf("; %s: epoch %d next %d", code, f.epoch, f.next)
		for _, m := range f.messages {
			out += fmt.Sprintf(", %d %s %q", m.uid, m.flags, m.text)
		}
	}
	return out
}

// f: files, by name and bytes in turns.
func f(words ...string) []api.File {
	var out []api.File
	for i := 0; i < len(words); i += 2 {
		out = append(out, api.File{Name: words[i], Data: words[i+1]})
	}
	return out
}

// many: n files of one kind of name, in which # is a number from 1 on.
func many(n int, name string) []api.File {
	var out []api.File
	for i := range n {
		out = append(out, api.File{Name: strings.ReplaceAll(name, "#", strconv.Itoa(i+1))})
	}
	return out
}

func join(groups ...[]api.File) []api.File {
	return slices.Concat(groups...)
}

func sameFiles(a, b []api.File) bool {
	return slices.Equal(a, b)
}

// open: a server, and its disk when all is done.
func open(t *testing.T, files []api.File) (*mailbag.Server, *disk) {
	t.Helper()
	s, acts, errno := mailbag.Open(files)
	if s == nil || errno != api.OK {
		t.Fatalf("P7: Open(%q) = %v, %d, want a server, OK", files, s, errno)
	}
	d := newDisk(files)
	d.do(t, acts)
	return s, d
}

// wantDisk: the server's files are these, the disk has them, and no crash takes anything away.
func wantDisk(t *testing.T, s *mailbag.Server, d *disk, want []api.File) {
	t.Helper()
	if got := s.Files(); !sameFiles(got, want) {
		t.Fatalf("P8: Files() = %q, want %q", got, want)
	}
	if got := d.files(); !sameFiles(got, want) {
		t.Fatalf("P8: the acts leave %q, want %q", got, want)
	}
	for _, left := range d.crashes() {
		if !sameFiles(left, want) {
			t.Fatalf("P8: not all is safe: a crash leaves %q, want %q", left, want)
		}
	}
}

func wantOpen(t *testing.T, files, want []api.File) {
	t.Helper()
	s, d := open(t, files)
	wantDisk(t, s, d, want)
}

func refuseOpen(t *testing.T, files []api.File) {
	t.Helper()
	if s, acts, errno := mailbag.Open(files); s != nil || acts != nil || errno != api.ErrDisk {
		few := files[:min(len(files), 30)]
		t.Errorf("P7: Open(%.400q) = %v, %.200v, %d, want nothing, ErrDisk", few, s, acts, errno)
	}
}

// wantAsRead: Open does with this disk what the document's words say; whether the disk is right.
func wantAsRead(t *testing.T, files []api.File) bool {
	t.Helper()
	s, ok := stateOf(files)
	if ok {
		wantOpen(t, files, s.inOrder())
	} else {
		refuseOpen(t, files)
	}
	return ok
}

// lastingOf: what is to be read from a disk, by the document's words.
func lastingOf(t *testing.T, files []api.File) string {
	t.Helper()
	s, ok := stateOf(files)
	if !ok {
		t.Fatalf("P11: the disk is wrong: %q", files)
	}
	return s.lasting()
}

func pick(rng *rand.Rand, words ...string) string {
	return words[rng.Intn(len(words))]
}

// randomList: the text of some list, right or not.
func randomList(rng *rand.Rand) string {
	next := 1 + rng.Intn(12)
	if rng.Intn(4) == 0 {
		next = 90 + rng.Intn(12)
	}
	epoch := 1 + rng.Intn(9)
	if rng.Intn(12) == 0 {
		epoch = 94 + rng.Intn(7)
	}
	lines := fmt.Sprintf("%d %d\n", epoch, next)
	uid := 0
	for range rng.Intn(5) {
		uid += 1 + rng.Intn(3)
		lines += fmt.Sprintf("%d %d %s\n", 1+rng.Intn(12), uid, pick(rng, "-", "a", "s", "df", "adfs"))
	}
	switch rng.Intn(12) {
	case 0:
		return lines
	case 1:
		return ""
	case 2:
		return withSum(lines + "x\n")
	}
	return withSum(lines)
}

// randomDisk: files of all kinds, of few folders.
func randomDisk(rng *rand.Rand) []api.File {
	var out []api.File
	add := func(name, data string) {
		if rng.Intn(100) == 0 || !slices.ContainsFunc(out, func(f api.File) bool { return f.Name == name }) {
			out = append(out, api.File{Name: name, Data: data})
		}
	}
	codes := []string{"in", "a", "ab", "=c9=", "epoch", "0"}
	for range 1 + rng.Intn(4) {
		add(pick(rng, codes...)+"/list", randomList(rng))
	}
	for range rng.Intn(10) {
		name := fmt.Sprintf("%s/%d.%s", pick(rng, codes...), 1+rng.Intn(12), pick(rng, "", "", "a", "s", "df"))
		add(name, strings.Repeat("m", rng.Intn(40))+strconv.Itoa(rng.Intn(10)))
	}
	for range rng.Intn(3) {
		add("epoch/"+strconv.Itoa(rng.Intn(8)), pick(rng, "", "", "x"))
	}
	if rng.Intn(12) == 0 {
		add("epoch/"+strconv.Itoa(94+rng.Intn(7)), "")
	}
	for range rng.Intn(4) {
		add(pick(rng, "in/w.tmp", ".tmp", "draft.tmp", "list.tmp", "in/list.tmp", "other", "in/0.", "in/1.sd", "A/list", "/list", "in/1000.", "in/1"), "o")
	}
	rng.Shuffle(len(out), func(i, j int) { out[i], out[j] = out[j], out[i] })
	return out
}
