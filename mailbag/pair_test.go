package mailbag_test

import (
	"fmt"
	"math/rand"
	"slices"
	"strings"
	"testing"

	"mailbag/api"
	"mailbag/mailbag"
)

// pair: a server, its disk, and the model of both.
type pair struct {
	t    *testing.T
	s    *mailbag.Server
	d    *disk
	m    *model
	said []string
}

func newPair(t *testing.T, files []api.File) *pair {
	t.Helper()
	want, ok := stateOf(files)
	if !ok {
		t.Fatalf("the disk is wrong: %q", files)
	}
	s, d := open(t, files)
	return &pair{t: t, s: s, d: d, m: newModel(want)}
}

// feed: the answer is the model's; what is to be done is told, but not done.
func (p *pair) feed(conn int, chunk string) []api.Act {
	p.t.Helper()
	p.said = append(p.said, fmt.Sprintf("%d: %q", conn, chunk))
	want, wantErrno := p.m.feed(conn, chunk)
	got, acts, errno := p.s.Feed(conn, chunk)
	if got != want || errno != wantErrno || errno != api.OK && acts != nil {
		p.t.Fatalf("P10: behind\n%s\nthe answer is %q, %v, %d, want %q, %d", strings.Join(p.said, "\n"), got, acts, errno, want, wantErrno)
	}
	return acts
}

// tell: what is to be done is done, and the disk is in order then.
func (p *pair) tell(conn int, chunk string) {
	p.t.Helper()
	p.d.do(p.t, p.feed(conn, chunk))
	wantDisk(p.t, p.s, p.d, p.m.inOrder())
}

// inPieces hands on a text in pieces of any lengths.
func inPieces(rng *rand.Rand, text string, tell func(piece string)) {
	for len(text) > 0 {
		n := 1 + rng.Intn(min(len(text), 1+rng.Intn(40)))
		tell(text[:n])
		text = text[n:]
	}
}

// bring: as feed, of a delivery.
func (p *pair) bring(name, text string) []api.Act {
	p.t.Helper()
	p.said = append(p.said, fmt.Sprintf("Deliver(%q, %q)", name, text))
	want, wantErrno := p.m.deliver(name, text)
	got, acts, errno := p.s.Deliver(name, text)
	if got != want || errno != wantErrno || errno != api.OK && acts != nil {
		p.t.Fatalf("P9: behind\n%s\nthe answer is %d, %v, %d, want %d, %d", strings.Join(p.said, "\n"), got, acts, errno, want, wantErrno)
	}
	return acts
}

// deliver: as tell, of a delivery.
func (p *pair) deliver(name, text string) {
	p.t.Helper()
	p.d.do(p.t, p.bring(name, text))
	wantDisk(p.t, p.s, p.d, p.m.inOrder())
}

// wantStep: a crash may leave this.
func (p *pair) wantStep(files []api.File, acts []api.Act, before string) map[string]int {
	p.t.Helper()
	last := before
	if len(p.m.steps) > 0 {
		last = p.m.steps[len(p.m.steps)-1]
	}
	seen := map[string]int{}
	everyCrash(p.t, files, acts, func(done int, left []api.File) {
		p.t.Helper()
		got, _ := reopen(p.t, left)
		seen[got]++
		if got == last || done < len(acts) && (got == before || slices.Contains(p.m.steps, got)) {
			return
		}
		p.t.Fatalf("P11: behind\n%s\n%+v are done: a crash behind %d of them leaves %q, which is\n%s\nwant\n%s\nor one of\n%s", strings.Join(p.said, "\n"), acts, done, left, got, before, strings.Join(p.m.steps, "\n"))
	})
	return seen
}

// crash: as tell, but with crashes on the way.
func (p *pair) crash(conn int, chunk string) {
	p.t.Helper()
	p.crashCall(func() []api.Act { return p.feed(conn, chunk) })
}

// crashCall: each state that is a step of a call is seen behind a crash, and no other is.
func (p *pair) crashCall(call func() []api.Act) {
	p.t.Helper()
	files, before := p.d.files(), p.m.lasting()
	acts := call()
	seen := p.wantStep(files, acts, before)
	for _, step := range append([]string{before}, p.m.steps...) {
		if seen[step] == 0 {
			p.t.Fatalf("P11: behind\n%s\nno crash leaves the step %s", strings.Join(p.said, "\n"), step)
		}
	}
	p.d.do(p.t, acts)
	wantDisk(p.t, p.s, p.d, p.m.inOrder())
}

func randomFlags(rng *rand.Rand) string {
	return everyFlags[rng.Intn(len(everyFlags))]
}

func randomPlace(rng *rand.Rand) string {
	return pick(rng, "1", "1", "1", "2", "2", "3", "4", "5", "7", "8", "9", "12", "*", "*", "*")
}

func randomSet(rng *rand.Rand) string {
	set := randomPlace(rng)
	for rng.Intn(3) == 0 {
		set += pick(rng, ":", ",") + randomPlace(rng)
	}
	return set
}

func randomKey(rng *rand.Rand) string {
	switch rng.Intn(5) {
	case 0:
		return "+" + randomFlags(rng)
	case 1:
		return "-" + randomFlags(rng)
	case 2:
		return ">" + pick(rng, "0", "1", "2", "5", "39", "40", "999")
	case 3:
		return "=" + pick(rng, "a", "b", "ab", "\x00", "-", "=")
	}
	return "ALL"
}

func randomText(rng *rand.Rand) string {
	text := ""
	for range rng.Intn(5) {
		text += pick(rng, "a", "b", "ab", "\n", " ", "\x00", "\xff", "=", "a NOOP\n")
	}
	if rng.Intn(12) == 0 {
		text = strings.Repeat("x", 40)
	}
	return text
}

// randomLine: a line with its newline, and with its text; mostly a right one.
func randomLine(rng *rand.Rand) string {
	tag := pick(rng, "a", "b7", "ZZZZzzzz")
	name := pick(rng, "in", "in", "in", "a", "a", "É", "ab", "0", "epoch", "-", "no/good!!!")
	flags := randomFlags(rng)
	var rest string
	switch word := pick(rng, "NOOP", "LIST", "MAKE", "MAKE", "REMOVE", "OPEN", "OPEN", "OPEN", "LOOK", "SHUT", "ADD", "ADD", "ADD", "ADD", "ADD", "GET", "GET", "GET", "PLUS", "PLUS", "PLUS", "MINUS", "FIND", "FIND", "COPY", "COPY", "SWEEP", "BYE"); word {
	case "MAKE", "REMOVE", "OPEN", "LOOK":
		rest = word + " " + name
	case "ADD":
		text := randomText(rng)
		for len(text) > 40 {
			text = randomText(rng)
		}
		rest = fmt.Sprintf("ADD %s %s %d\n%s", name, dash(flags), len(text), text)
		if rng.Intn(20) == 0 {
			rest += "x"
		}
	case "GET":
		rest = "GET " + randomSet(rng) + " " + pick(rng, "U", "F", "S", "T", "UF", "TU", "SFTU", "FU", "TS")
	case "PLUS", "MINUS":
		rest = word + " " + randomSet(rng) + " " + pick(rng, flags, flags, "d", "s", "-")
	case "FIND":
		rest = "FIND " + randomKey(rng)
		for rng.Intn(2) == 0 {
			rest += " " + randomKey(rng)
		}
	case "COPY":
		rest = "COPY " + randomSet(rng) + " " + name
	case "BYE":
		rest = "NOOP"
		if rng.Intn(20) == 0 {
			rest = word
		}
	default:
		rest = word
	}
	line := tag + " " + rest
	if rng.Intn(30) == 0 {
		i := rng.Intn(len(line))
		line = line[:i] + pick(rng, "", " ", "x", "\n", "*", "1", strings.Repeat("y", 81)) + line[i+rng.Intn(2):]
	}
	return line + "\n"
}
