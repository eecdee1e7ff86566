package mailbag_test

import (
	"math/rand"
	"strings"
	"testing"

	"mailbag/api"
	"mailbag/mailbag"
)

// Feeds of one or more lines; ahead of each the folder in is opened.
var feedsToCrash = []string{
	"a MAKE q\n",
	"a MAKE q\nb MAKE r\n",
	"a REMOVE a\n",
	"a REMOVE É\n",
	"a REMOVE É\nb REMOVE a\n",
	"a REMOVE a\nb MAKE a\nc ADD a s 1\nx\n",
	"a REMOVE a\nb MAKE a\nc REMOVE a\nd MAKE a\n",
	"a MAKE q\nb COPY 1:* q\nc REMOVE q\n",
	"a ADD in - 0\n\n",
	"a ADD in adfs 40\n" + strings.Repeat("x", 40) + "\n",
	"a ADD É - 1\nx\nb ADD É s 1\ny\nc ADD É d 1\nz\n",
	"a ADD a - 1\nx\nb ADD a s 1\ny\nc ADD a d 1\nz\n",
	"a PLUS 1:* d\n",
	"a PLUS 1 s\n",
	"a MINUS 1:* adfs\n",
	"a PLUS 1 a\nb MINUS 1 a\nc PLUS 2:3 fs\n",
	"a COPY 1 a\n",
	"a COPY 1:2 a\n",
	"a COPY 1:3 in\n",
	"a COPY 1:3 É\n",
	"a COPY 3,1 É\nb COPY 1 a\n",
	"a SWEEP\n",
	"a PLUS 1:* d\nb SWEEP\n",
	"a PLUS 1:2 d\nb SWEEP\nc ADD in f 1\nx\nd ADD in f 1\ny\n",
	"a COPY 1:* in\nb PLUS 2:5 d\nc SWEEP\nd COPY 1:* in\n",
	"a PLUS 3 d\nb SWEEP\nc PLUS 1 d\nd SWEEP\ne PLUS 1 d\nf SWEEP\ng ADD in - 1\nz\n",
	"a OPEN a\nb SWEEP\nc REMOVE in\nd MAKE in\ne COPY 1:* in\n",
	"a LIST\nb GET 1:* UFST\nc FIND ALL\nd COPY 9 a\ne COPY 1 q\nf MAKE a\ng REMOVE in\nh LOOK a\ni SWEEP\nj BYE\n",
}

func TestCrashOfFeed(t *testing.T) {
	t.Parallel()
	for _, marks := range [][]api.File{nil, f("epoch/2", ""), f("epoch/5", ""), f("epoch/7", ""), f("epoch/98", "")} {
		for _, chunk := range feedsToCrash {
			p := newPair(t, join(threeFolders(), marks))
			p.tell(0, "o OPEN in\n")
			p.crash(0, chunk)
		}
	}
}

// The Open behind a crash may crash too.
func TestCrashBehindACrashOfFeed(t *testing.T) {
	t.Parallel()
	for _, chunk := range feedsToCrash {
		p := newPair(t, join(threeFolders(), f("epoch/2", "")))
		p.tell(0, "o OPEN in\n")
		files := p.d.files()
		acts := p.feed(0, chunk)
		if len(acts) > 20 {
			continue
		}
		everyCrash(t, files, acts, func(done int, left []api.File) {
			crashOpen(t, left, lastingOf(t, left), 1)
		})
	}
}

// The text of a message comes in pieces: nothing is done ahead of the newline behind it.
func TestCrashAmongPieces(t *testing.T) {
	p := newPair(t, threeFolders())
	for _, chunk := range strings.SplitAfter("o OPEN in\na ADD in s 3\nx\nz\nb COPY 1:* in\nc PLUS 2:3 d\nd SWEEP\ne SHUT\nf REMOVE in\ng MAKE in\nh ADD in - 2\nxy\n", "") {
		p.crash(0, chunk)
	}
}

func TestCrashOfRandomFeeds(t *testing.T) {
	t.Parallel()
	rng := rand.New(rand.NewSource(61))
	steps := 0
	for run := range 120 {
		files := threeFolders()
		if run%3 == 0 {
			files = randomDisk(rng)
		}
		if _, ok := stateOf(files); !ok {
			continue
		}
		p := newPair(t, files)
		for conn := range 3 {
			p.tell(conn, pick(rng, "o OPEN in\n", "o OPEN a\n"))
		}
		for range 12 {
			chunk := ""
			for range 1 + rng.Intn(4) {
				chunk += randomLine(rng)
			}
			p.crash(rng.Intn(3), chunk)
			steps += len(p.m.steps)
		}
	}
	if steps < 500 {
		t.Errorf("there were only %d steps", steps)
	}
}

// A message that was answered by OK is there behind any later crash, whatever else is under way, until a SWEEP or a REMOVE of its own.
func TestAcknowledgedMessagesLast(t *testing.T) {
	for _, chunk := range []string{"c ADD in s 2\nyo\n", "c COPY 1:* in\n", "c PLUS 1:* fs\nd MINUS 1 f\n", "c MAKE z\nd REMOVE b\n", "c PLUS 2 d\nd SWEEP\n", "c ADD b - 1\nx\nd REMOVE b\ne MAKE b\n"} {
		s := serve(t, nil)
		s.on(0, "a MAKE in\nb ADD in - 2\nhi\nc MAKE b\nd ADD in - 1\nz\no OPEN in\n", "a OK\n+\nb OK\nc OK\n+\nd OK\n* EPOCH 1\n* NEXT 3\n* COUNT 2\no OK\n")
		files := s.d.files()
		_, acts, _ := s.s.Feed(0, chunk)
		everyCrash(t, files, acts, func(done int, left []api.File) {
			again, _, errno := mailbag.Open(left)
			if errno != api.OK {
				t.Fatalf("P11: Open of %q is %d", left, errno)
			}
			if got, _, _ := again.Feed(2, "o OPEN in\na GET 1 UT\n"); !strings.HasSuffix(got, "* 1 GET U 1 T {2}\nhi\na OK\n") {
				t.Fatalf("P12: behind %d of the acts of %q and a crash the message is %q", done, chunk, got)
			}
		})
	}
}
