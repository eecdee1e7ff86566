package mailbag_test

import (
	"fmt"
	"math/rand"
	"slices"
	"strings"
	"testing"

	"mailbag/api"
	"mailbag/mailbag"
)

// past is what was seen of a disk on which servers come, are talked to, and crash.
type past struct {
	texts map[string]string // by epoch and UID
	next  map[int]int       // by epoch
	codes map[int]string    // by epoch
	epoch int
	sure  map[string]string // the texts of messages that may not be lost, by epoch and UID
}

func newPast() *past {
	return &past{map[string]string{}, map[int]int{}, map[int]string{}, 0, nil}
}

// textsOf: by epoch and UID.
func textsOf(t *testing.T, files []api.File) map[string]string {
	t.Helper()
	state, ok := stateOf(files)
	if !ok {
		t.Fatalf("P11: the disk is wrong: %q", files)
	}
	out := map[string]string{}
	for _, fo := range state.folders {
		for _, m := range fo.messages {
			out[fmt.Sprintf("%d %d", fo.epoch, m.uid)] = m.text
		}
	}
	return out
}

// check: neither an epoch nor a UID means two things, and what rises does not fall.
func (h *past) check(t *testing.T, files []api.File) {
	t.Helper()
	state, ok := stateOf(files)
	if !ok {
		t.Fatalf("P11: the disk is wrong: %q", files)
	}
	if state.epoch < h.epoch {
		t.Fatalf("P12: the epoch of the disk fell from %d to %d", h.epoch, state.epoch)
	}
	h.epoch = state.epoch
	for code, fo := range state.folders {
		if was, seen := h.codes[fo.epoch]; seen && was != code {
			t.Fatalf("P12: the epoch %d of %s was that of %s", fo.epoch, code, was)
		}
		h.codes[fo.epoch] = code
		if fo.next < h.next[fo.epoch] {
			t.Fatalf("P12: the next UID of %s fell from %d to %d", code, h.next[fo.epoch], fo.next)
		}
		for _, m := range fo.messages {
			id := fmt.Sprintf("%d %d", fo.epoch, m.uid)
			text, seen := h.texts[id]
			if seen && text != m.text || !seen && m.uid < h.next[fo.epoch] {
				t.Fatalf("P12: the message %d of %s was %q (%v), and is %q", m.uid, code, text, seen, m.text)
			}
			h.texts[id] = m.text
		}
		h.next[fo.epoch] = fo.next
	}
}

// keep: no message that was there when a call was answered is lost, unless it may go by what was sent since.
func (h *past) keep(t *testing.T, files []api.File, mayGo bool) {
	t.Helper()
	h.check(t, files)
	there := textsOf(t, files)
	for id, text := range h.sure {
		if got, ok := there[id]; (!ok || got != text) && !mayGo {
			t.Fatalf("P12: the message %s was %q and is %q (%v): %q", id, text, got, ok, files)
		}
	}
}

// anyCall: a delivery, or some lines, of which the last may end with a later call; what is to be done, and whether messages may go by it.
func (p *pair) anyCall(rng *rand.Rand) ([]api.Act, bool) {
	p.t.Helper()
	if rng.Intn(4) == 0 {
		return p.bring(pick(rng, "in", "in", "a", "É", "q", "0"), randomText(rng)+strings.Repeat("z", rng.Intn(3)*rng.Intn(20))), false
	}
	conn, chunk := rng.Intn(3), ""
	for range 1 + rng.Intn(4) {
		chunk += randomLine(rng)
	}
	if rng.Intn(3) == 0 {
		chunk = chunk[:rng.Intn(len(chunk))]
	}
	sent := p.m.talkers[conn].waiting + chunk
	return p.feed(conn, chunk), strings.Contains(sent, "SWEEP") || strings.Contains(sent, "REMOVE")
}

// crashOnce: of the acts some are done; a disk that a crash may leave then.
func crashOnce(t *testing.T, rng *rand.Rand, d *disk, acts []api.Act) ([]api.File, bool) {
	t.Helper()
	done := rng.Intn(len(acts) + 1)
	d.do(t, acts[:done])
	crashes := d.crashes()
	return crashes[rng.Intn(len(crashes))], done == len(acts)
}

// oneLife: a disk is opened, talked to, and crashes within some call, Open among them; what is left.
func oneLife(t *testing.T, rng *rand.Rand, h *past, files []api.File, counts map[string]int) []api.File {
	t.Helper()
	if rng.Intn(5) == 0 {
		_, acts, _ := mailbag.Open(files)
		left, _ := crashOnce(t, rng, newDisk(files), acts)
		if got, want := lastingOf(t, left), lastingOf(t, files); got != want {
			t.Fatalf("P11: a crash of Open of %q leaves %s, want %s", files, got, want)
		}
		counts["Open"]++
		return left
	}
	p := newPair(t, files)
	for {
		h.sure = textsOf(t, p.d.files())
		before := p.m.lasting()
		acts, mayGo := p.anyCall(rng)
		// Most crashes come where there is something to be torn.
		if rng.Intn(20) > len(acts)/2 {
			p.d.do(t, acts)
			wantDisk(t, p.s, p.d, p.m.inOrder())
			h.keep(t, p.d.files(), mayGo)
			continue
		}
		steps := append([]string{before}, p.m.steps...)
		left, whole := crashOnce(t, rng, p.d, acts)
		if whole {
			steps = steps[len(steps)-1:]
		}
		got := lastingOf(t, left)
		if !slices.Contains(steps, got) {
			t.Fatalf("P11: behind\n%s\na crash leaves %s, want one of\n%s", strings.Join(p.said, "\n"), got, strings.Join(steps, "\n"))
		}
		h.keep(t, left, mayGo)
		counts[fmt.Sprintf("step %d of %d", slices.Index(steps, got), min(len(steps), 3))]++
		return left
	}
}

// What lasts behind a crash is a step of the call that crashed, and the next server goes on from there.
func TestLivesWithCrashes(t *testing.T) {
	t.Parallel()
	rng := rand.New(rand.NewSource(62))
	counts := map[string]int{}
	for run := range 400 {
		files := threeFolders()
		if run%2 == 0 {
			files = f("in/list", empty)
		}
		h := newPast()
		h.check(t, files)
		for range 10 {
			files = oneLife(t, rng, h, files, counts)
			h.check(t, files)
		}
	}
	for _, what := range []string{"Open", "step 0 of 1", "step 0 of 2", "step 1 of 2", "step 0 of 3", "step 1 of 3", "step 2 of 3"} {
		if counts[what] < 10 {
			t.Errorf("only %d of %q were seen", counts[what], what)
		}
	}
}

// goOn: all kinds of calls behind a crash, as if there had been none.
func goOn(t *testing.T, h *past, left []api.File) {
	t.Helper()
	h.check(t, left)
	p := newPair(t, left)
	h.sure = textsOf(t, left)
	for _, turn := range []turn{
		{conn: 0, said: "a LIST\nb OPEN in\nc GET 1:* UFST\n"},
		{conn: 1, said: "a LOOK in\nb ADD in d 3\nnew\n"},
		{conn: 2, said: "a OPEN a\nb COPY 1 in\nc COPY * É\nd MAKE q\n"},
		{conn: 0, said: "d PLUS 1:* s\ne COPY * a\n"},
	} {
		p.tell(turn.conn, turn.said)
		h.keep(t, p.d.files(), false)
	}
	p.deliver("in", "news")
	p.deliver("q", "news")
	h.keep(t, p.d.files(), false)
	for _, turn := range []turn{
		{conn: 0, said: "f SWEEP\ng ADD in - 1\nx\nh SHUT\ni REMOVE q\n"},
		{conn: 1, said: "c NOOP\nd BYE\n"},
		{conn: 2, said: "e SHUT\nf REMOVE a\ng MAKE a\nh ADD a s 1\ny\ni REMOVE in\nj MAKE in\nk LIST\n"},
	} {
		p.tell(turn.conn, turn.said)
		h.check(t, p.d.files())
	}
}

func TestCallsBehindEveryCrash(t *testing.T) {
	t.Parallel()
	for _, chunk := range feedsToCrash {
		p := newPair(t, join(threeFolders(), f("epoch/2", "")))
		p.tell(1, "o OPEN in\n")
		files := p.d.files()
		acts := p.feed(1, chunk)
		everyCrash(t, files, acts, func(done int, left []api.File) {
			t.Helper()
			h := newPast()
			h.check(t, files)
			goOn(t, h, left)
		})
	}
	for _, files := range disksToOpen {
		_, acts, _ := mailbag.Open(files)
		everyCrash(t, files, acts, func(done int, left []api.File) {
			t.Helper()
			h := newPast()
			h.check(t, files)
			goOn(t, h, left)
		})
	}
}

// Two connections and deliveries in turns on one folder, with every crash of every call.
func TestEveryCrashOfSeveralConnections(t *testing.T) {
	t.Parallel()
	for _, talk := range [][]turn{
		{{conn: 0, said: "a PLUS 1,3 d\n"}, {conn: 1, said: "a SWEEP\nb ADD in s 1\nx\n"}, {conn: 0, said: "b COPY 1:* in\n"}, {conn: 2, said: "a NOOP\n"}},
		{{conn: 0, said: "a ADD in - 3\nab"}, {conn: 1, said: "a ADD in d 1\ny\nb SWEEP\n"}, {conn: 0, said: "c\nb PLUS * d\n"}, {conn: 1, said: "c SWEEP\n"}},
		{{conn: 0, said: "a COPY 1:3 a\n"}, {conn: 1, said: "a COPY 1:2 a\n"}, {conn: 0, said: "b COPY 1 a\nc COPY 1 É\n"}, {conn: 2, said: "a OPEN a\nb COPY 1:* É\nc COPY 1:2 É\n"}},
		{{conn: 2, said: "a SHUT\nb REMOVE in\nc REMOVE a\n"}, {conn: 0, said: "a SHUT\n"}, {conn: 1, said: "a OPEN a\nb REMOVE in\nc MAKE in\n"}, {conn: 0, said: "b ADD in - 0\n\nc REMOVE in\nd REMOVE É\n"}},
		{{conn: 0, said: "a PLUS 1:* f\nb MINUS 1 f\n"}, {conn: 1, said: "a PLUS 1:* d\nb SWEEP\n"}, {conn: 0, said: "c MINUS 1:* d\nd PLUS 1:3 a\n"}, {conn: 1, said: "c ADD in - 0\n\nd PLUS * d\ne SWEEP\n"}},
	} {
		for _, marks := range [][]api.File{nil, f("epoch/90", "")} {
			p := newPair(t, join(threeFolders(), marks))
			for conn := range 3 {
				p.tell(conn, "o OPEN in\n")
			}
			for i, turn := range talk {
				p.crash(turn.conn, turn.said)
				p.crashCall(func() []api.Act { return p.bring("in", fmt.Sprint("news ", i)) })
			}
		}
	}
}
