package mailbag_test

import (
	"math/rand"
	"testing"

	"mailbag/api"
)

// A folder in which there is something to see, one that is nearly full, and one whose UIDs are nearly used up.
func threeFolders() []api.File {
	return f("in/list", withSum("3 9\n2 1 s\n1 5 -\n7 8 ad\n"), "in/1.", "", "in/2.f", "abab", "in/7.", "a\nb",
		"a/list", withSum("4 8\n1 1 -\n2 2 -\n3 3 -\n4 4 d\n5 5 -\n6 7 -\n"), "a/1.", "1", "a/2.", "2", "a/3.", "3", "a/4.", "4", "a/5.", "5", "a/6.", "6",
		"=c9=/list", withSum("5 97\n9 96 s\n"), "=c9=/9.", "nine", "other", "o")
}

func TestRandomSessions(t *testing.T) {
	t.Parallel()
	rng := rand.New(rand.NewSource(41))
	counts := map[string]int{}
	for run := range 1500 {
		files := threeFolders()
		if run%3 == 0 {
			files = randomDisk(rng)
		}
		if _, ok := stateOf(files); !ok {
			continue
		}
		p := newPair(t, files)
		p.m.counts = counts
		for range 60 {
			// In half of the runs mostly one connection, so that it gets far.
			conn := rng.Intn(3)
			if run%2 == 0 {
				conn = max(0, rng.Intn(6)-3)
			}
			if rng.Intn(10) == 0 {
				p.deliver(pick(rng, "in", "a", "É"), "news")
			}
			inPieces(rng, randomLine(rng), func(piece string) { p.d.do(t, p.feed(conn, piece)) })
		}
		wantDisk(t, p.s, p.d, p.m.inOrder())
	}
	for _, what := range []string{"NOOP OK", "LIST OK", "MAKE OK", "MAKE NO", "REMOVE OK", "REMOVE NO", "OPEN OK", "OPEN NO", "LOOK OK", "LOOK NO", "SHUT OK", "ADD OK", "ADD NO", "GET OK", "GET NO", "PLUS OK", "PLUS NO", "MINUS OK", "MINUS NO", "FIND OK", "COPY OK", "COPY NO", "SWEEP OK", "SWEEP NO", "BYE OK", "BAD", "* BAD", "text BAD", "long", "gone", "kept though gone", "flags"} {
		if counts[what] < 50 {
			t.Errorf("only %d of %q were seen", counts[what], what)
		}
	}
}

// Many lines in one chunk, and one that ends the connection in its midst.
func TestRandomSessionsInGreatChunks(t *testing.T) {
	rng := rand.New(rand.NewSource(42))
	for range 300 {
		p := newPair(t, threeFolders())
		for range 6 {
			chunk := ""
			for range 1 + rng.Intn(30) {
				chunk += randomLine(rng)
			}
			if rng.Intn(4) == 0 {
				chunk = chunk[:rng.Intn(len(chunk))]
			}
			p.tell(rng.Intn(3), chunk)
		}
	}
}

// The lines of three connections, and their texts, come in pieces between one another.
func TestRandomSessionsBetweenOneAnother(t *testing.T) {
	t.Parallel()
	rng := rand.New(rand.NewSource(43))
	waited := 0
	for range 2500 {
		p := newPair(t, threeFolders())
		var toCome [3]string
		for range 150 {
			conn := rng.Intn(3)
			if toCome[conn] == "" {
				toCome[conn] = randomLine(rng)
			}
			if rng.Intn(20) == 0 {
				p.d.do(t, p.bring(pick(rng, "in", "a", "É", "q"), "news"))
			}
			n := 1 + rng.Intn(len(toCome[conn]))
			p.d.do(t, p.feed(conn, toCome[conn][:n]))
			toCome[conn] = toCome[conn][n:]
			for _, c := range p.m.talkers {
				if c.adding != nil && len(p.m.steps) > 0 {
					waited++
				}
			}
		}
		wantDisk(t, p.s, p.d, p.m.inOrder())
	}
	if waited < 1000 {
		t.Errorf("only %d changes came while a text was on its way", waited)
	}
}

func FuzzFeed(f *testing.F) {
	f.Add("a OPEN in\nb GET 1:* UFST\n", "c ADD in d 3\nabc\nd SWEEP\n", "", uint8(7))
	f.Add("a MAKE x\nb ADD x - 0\n\nc OPEN x\n", "d COPY * in\ne REMOVE a\nf LIST\n", "a OPEN a\nb SHUT\n", uint8(100))
	f.Add("a OPEN É\nb COPY 1,1 É\nc PLUS * adfs\nd FIND +a -s >1 =x\n", "e BYE\n", "a LOOK É\nb NOOP\n", uint8(1))
	f.Add("a OPEN in\nb PLUS 1 d\nc NOOP\n", "a OPEN in\nb SWEEP\nc NOOP\n", "a LOOK in\nb GET 1:* UF\nc NOOP\n", uint8(11))
	f.Fuzz(func(t *testing.T, first, second, third string, size uint8) {
		p := newPair(t, threeFolders())
		all := []string{first, second, third}
		for len(all[0])+len(all[1])+len(all[2]) > 0 {
			for conn, text := range all {
				n := min(len(text), int(size)+1)
				p.tell(conn, text[:n])
				all[conn] = text[n:]
			}
		}
		p.tell(0, "\nz LIST\n")
	})
}
