package mailbag_test

import (
	"fmt"
	"math/rand"
	"slices"
	"strings"
	"testing"

	"mailbag/api"
)

// mirror: what the user of a connection makes of a folder by the answers; of messages that are told to be new it sees the UIDs and flags in the folder itself. It knows nothing of how views work, but that answers must make it the same as the folder.
type mirror struct {
	code  string // of the folder that is opened
	seen  int    // the greatest UID so far
	sight []sight
}

// hear takes in an answer to one line; now is the folder as it is behind it.
func (m *mirror) hear(answer string, now folder) error {
	for _, line := range strings.Split(strings.TrimSuffix(answer, "\n"), "\n") {
		var place, count, uid int
		var flags string
		if n, _ := fmt.Sscanf(line, "* %d GET U %d F %s", &place, &uid, &flags); n == 3 {
			if place > len(m.sight) || m.sight[place-1].uid != uid {
				return fmt.Errorf("%q, but the places are %v", line, m.sight)
			}
			continue
		}
		if n, _ := fmt.Sscanf(line, "* %d FLAGS %s", &place, &flags); n == 2 {
			if place > len(m.sight) || m.sight[place-1].told == strings.Trim(flags, "-") {
				return fmt.Errorf("%q, but the places are %v", line, m.sight)
			}
			m.sight[place-1].told = strings.Trim(flags, "-")
			continue
		}
		if n, _ := fmt.Sscanf(line, "* %d GONE", &place); n == 1 && strings.HasSuffix(line, "GONE") {
			if place > len(m.sight) {
				return fmt.Errorf("%q, but the places are %v", line, m.sight)
			}
			m.sight = slices.Delete(m.sight, place-1, place)
			continue
		}
		if n, _ := fmt.Sscanf(line, "* COUNT %d", &count); n == 1 {
			m.takeIn(now)
			if len(m.sight) != count {
				return fmt.Errorf("%q, but the places are %v", line, m.sight)
			}
		}
	}
	return nil
}

// takeIn: UIDs rise, so all that is new is behind what was there.
func (m *mirror) takeIn(now folder) {
	for _, msg := range now.messages {
		if msg.uid > m.seen {
			m.seen = msg.uid
			m.sight = append(m.sight, sight{msg.uid, msg.flags})
		}
	}
}

// without: the places of messages that are there.
func (m *mirror) without(now folder) []sight {
	return slices.DeleteFunc(slices.Clone(m.sight), func(s sight) bool {
		return !slices.ContainsFunc(now.messages, func(msg message) bool { return msg.uid == s.uid })
	})
}

func sightsOf(now folder) []sight {
	var out []sight
	for _, msg := range now.messages {
		out = append(out, sight{msg.uid, msg.flags})
	}
	return out
}

// says: a line that can be told from an answer without doubt.
func (m *mirror) says(rng *rand.Rand) string {
	name := pick(rng, "in", "in", "out")
	if m.code == "" || rng.Intn(25) == 0 {
		return pick(rng, "OPEN ", "OPEN ", "LOOK ") + name
	}
	switch rng.Intn(16) {
	case 0, 1:
		return "NOOP"
	case 2:
		return pick(rng, "LIST", "MAKE x", "MAKE in", "REMOVE x", "REMOVE in")
	case 3, 4, 5:
		return "ADD " + name + " " + dash(randomFlags(rng)) + " 0\n"
	case 6, 7:
		return "GET " + randomSet(rng) + " UF"
	case 8, 9, 10:
		return "PLUS " + randomSet(rng) + " " + pick(rng, "d", "s", "af")
	case 11:
		return "MINUS " + randomSet(rng) + " " + pick(rng, "d", "s", "af")
	case 12:
		return "FIND " + randomKey(rng)
	case 13, 14:
		return "COPY " + randomSet(rng) + " " + name
	}
	return "SWEEP"
}

// check: what the answer to this line says is the folder as it is now.
func (m *mirror) check(said, answer string, now folder) error {
	word, _, _ := strings.Cut(said, " ")
	if strings.HasSuffix(answer, "BAD\n") {
		return nil
	}
	switch word {
	case "NOOP", "LIST", "MAKE", "REMOVE", "ADD", "COPY", "SWEEP":
		if !slices.Equal(m.sight, sightsOf(now)) {
			return fmt.Errorf("the view is %v", m.sight)
		}
	case "GET", "PLUS", "MINUS", "FIND":
		if strings.Contains(answer, "GONE") || !slices.Equal(m.without(now), sightsOf(now)) {
			return fmt.Errorf("the view is %v", m.sight)
		}
	}
	return nil
}

// listen: one line of a connection, and what the user makes of the answer.
func (m *mirror) listen(s *server, conn int, said string) error {
	answer, acts, errno := s.s.Feed(conn, "a "+said+"\n")
	if errno != api.OK {
		return fmt.Errorf("the answer is %d", errno)
	}
	s.d.do(s.t, acts)
	state, _ := stateOf(s.s.Files())
	if word, name, _ := strings.Cut(said, " "); word == "OPEN" || word == "LOOK" {
		*m = mirror{}
		if strings.HasSuffix(answer, "OK\n") {
			m.code = name
			m.takeIn(state.folders[name])
		}
		return nil
	}
	now := state.folders[m.code]
	if err := m.hear(answer, now); err != nil {
		return fmt.Errorf("the answer is %q: %w", answer, err)
	}
	if err := m.check(said, answer, now); err != nil {
		return fmt.Errorf("the answer is %q: %w, the folder is %v", answer, err, now)
	}
	return nil
}

func TestAnswersMirrorTheFolder(t *testing.T) {
	t.Parallel()
	rng := rand.New(rand.NewSource(81))
	for range 300 {
		s := serve(t, twins())
		var mirrors [3]mirror
		history := ""
		for range 80 {
			if rng.Intn(8) == 0 {
				name := pick(rng, "in", "out")
				_, acts, _ := s.s.Deliver(name, "news")
				s.d.do(t, acts)
				history += "Deliver(" + name + ")\n"
			}
			conn := rng.Intn(3)
			said := mirrors[conn].says(rng)
			history += fmt.Sprintf("%d: %q\n", conn, said)
			if err := mirrors[conn].listen(s, conn, said); err != nil {
				t.Fatalf("P10: behind\n%s%v", history, err)
			}
		}
	}
}

// Every talk of so many lines, by these connections, against the model.
func everyTalk(t *testing.T, opening []turn, lines []string, conns, length int) {
	t.Helper()
	all := make([]turn, 0, len(lines)*conns)
	for conn := range conns {
		for _, line := range lines {
			all = append(all, turn{conn: conn, said: "a " + line + "\n"})
		}
	}
	count := 1
	for range length - 1 {
		count *= len(all)
	}
	for first := range all {
		t.Run(fmt.Sprintf("%d%s", all[first].conn, all[first].said), func(t *testing.T) {
			t.Parallel()
			for number := range count {
				p := newPair(t, f("in/list", withSum("1 3\n1 1 d\n2 2 -\n"), "in/1.", "1", "in/2.", "2", "out/list", withSum("2 1\n")))
				for _, turn := range opening {
					p.feed(turn.conn, turn.said)
				}
				p.feed(all[first].conn, all[first].said)
				for range length - 1 {
					next := all[number%len(all)]
					p.feed(next.conn, next.said)
					number /= len(all)
				}
				if got, want := p.s.Files(), p.m.inOrder(); !sameFiles(got, want) {
					t.Fatalf("P8: behind\n%s\nFiles() = %q, want %q", strings.Join(p.said, "\n"), got, want)
				}
			}
		})
	}
}

func TestEveryTalkOfTwo(t *testing.T) {
	t.Parallel()
	opening := []turn{{conn: 0, said: "o OPEN in\n"}, {conn: 1, said: "o OPEN in\n"}}
	everyTalk(t, opening, []string{"NOOP", "GET 1:* UF", "PLUS * d", "MINUS 1:* d", "SWEEP", "ADD in d 0\n", "COPY * in"}, 2, 4)
}

func TestEveryTalkOfTwoAboutFolders(t *testing.T) {
	t.Parallel()
	everyTalk(t, nil, []string{"NOOP", "MAKE in", "REMOVE in", "OPEN in", "LOOK out", "SHUT", "ADD in - 0\n", "COPY 1 in", "COPY 1:* out"}, 2, 4)
}

func TestEveryTalkOfThree(t *testing.T) {
	t.Parallel()
	opening := []turn{{conn: 0, said: "o OPEN in\n"}, {conn: 1, said: "o OPEN in\n"}, {conn: 2, said: "o LOOK in\n"}}
	everyTalk(t, opening, []string{"NOOP", "FIND +d", "PLUS 1 d", "SWEEP", "COPY 1 in"}, 3, 4)
}
