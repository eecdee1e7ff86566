package mailbag_test

import (
	"fmt"
	"math/rand"
	"runtime"
	"slices"
	"strconv"
	"strings"
	"sync"
	"sync/atomic"
	"testing"

	"mailbag/api"
	"mailbag/mailbag"
)

// The tests of this file, whose names end with AtOnce, are those that .ci/run runs under the race detector too.

func TestDeliveriesAtOnce(t *testing.T) {
	for range 50 {
		s, _ := open(t, f("in/list", empty, "a/list", withSum("2 1\n")))
		var group sync.WaitGroup
		got := make([]int, 20)
		for i := range got {
			group.Add(1)
			go func() {
				defer group.Done()
				name := []string{"in", "a"}[i%2]
				uid, _, errno := s.Deliver(name, strconv.Itoa(i))
				if (errno == api.OK) != (uid > 0) {
					t.Errorf("P13: %d, %d", uid, errno)
				}
				got[i] = uid
				if _, ok := stateOf(s.Files()); !ok {
					t.Errorf("P13: Files tells a wrong disk")
				}
			}()
		}
		group.Wait()
		end, _ := stateOf(s.Files())
		for i, code := range []string{"in", "a"} {
			fo := end.folders[code]
			if len(fo.messages) != 8 || fo.next != 9 {
				t.Errorf("P13: of ten messages there are %v", fo)
			}
			for _, m := range fo.messages {
				if n, _ := strconv.Atoi(m.text); n%2 != i || got[n] != m.uid {
					t.Errorf("P13: the message %q has UID %d, the answer was %d", m.text, m.uid, got[n])
				}
			}
		}
	}
}

// Connections, deliveries and looks at the files at once: each call is whole.
func TestConnectionsAtOnce(t *testing.T) {
	for range 40 {
		s, _ := open(t, f("in/list", empty, "a/list", withSum("2 1\n")))
		var group sync.WaitGroup
		added := make([]int, 3)
		for conn := range 3 {
			group.Add(2)
			go func() {
				defer group.Done()
				added[conn] = talkAtOnce(t, s, conn)
			}()
			go func() {
				defer group.Done()
				for i := range 20 {
					uid, _, errno := s.Deliver("a", strconv.Itoa(i))
					if (errno == api.OK) != (uid > 0) {
						t.Errorf("P13: Deliver is %d, %d", uid, errno)
					}
					if _, ok := stateOf(s.Files()); !ok {
						t.Errorf("P13: Files tells a wrong disk")
					}
				}
			}()
		}
		group.Wait()
		end, _ := stateOf(s.Files())
		in, sum := end.folders["in"], added[0]+added[1]+added[2]
		if in.next != 1+sum || len(in.messages) > 8 || len(end.folders["a"].messages) != 8 {
			t.Errorf("P13: %d were added, the folders are %v", sum, end.folders)
		}
	}
}

// talkAtOnce tells how many messages came in.
func talkAtOnce(t *testing.T, s *mailbag.Server, conn int) int {
	count := 0
	for i := range 30 {
		chunk := "a ADD in d 2\nhi\n"
		if i%10 == 5 {
			chunk = "a OPEN in\na SWEEP\na SHUT\n"
		}
		half := len(chunk) / 2
		first, _, one := s.Feed(conn, chunk[:half])
		second, _, two := s.Feed(conn, chunk[half:])
		if one != api.OK || two != api.OK {
			t.Errorf("P13: Feed is %d, %d", one, two)
		}
		switch got := first + second; {
		case i%10 == 5 && !strings.HasSuffix(got, "a OK\na OK\n"):
			t.Errorf("P13: the answer is %q", got)
		case got == "+\na OK\n":
			count++
		case i%10 != 5 && got != "+\na NO\n":
			t.Errorf("P13: the answer is %q", got)
		}
	}
	return count
}

// asked: a call of a server, and all that it answers.
type asked struct {
	conn         int // or one of the following
	folder, text string
	begin, end   int64 // by a clock that counts begins and ends of calls
	answer       string
}

const (
	aDelivery = -1
	aLook     = -2 // at the files
)

func (a *asked) ask(s *mailbag.Server) string {
	switch a.conn {
	case aDelivery:
		uid, acts, errno := s.Deliver(a.folder, a.text)
		return fmt.Sprintf("%d %+v %d", uid, acts, errno)
	case aLook:
		return fmt.Sprintf("%q", s.Files())
	}
	answer, acts, errno := s.Feed(a.conn, a.text)
	return fmt.Sprintf("%q %+v %d", answer, acts, errno)
}

// askAtOnce: each row of calls by a goroutine of its own.
func askAtOnce(s *mailbag.Server, rows [][]*asked) {
	var clock atomic.Int64
	var group sync.WaitGroup
	start := make(chan int)
	for _, row := range rows {
		group.Add(1)
		go func() {
			defer group.Done()
			<-start
			for _, a := range row {
				a.begin = clock.Add(1)
				a.answer = a.ask(s)
				a.end = clock.Add(1)
				runtime.Gosched()
			}
		}()
	}
	close(start)
	group.Wait()
}

// search: for an order in which the calls, one behind the other, answer just as they did.
type search struct {
	files []api.File
	rows  [][]*asked
	tried map[string]int // what was reached, without a way from there
}

// goesOn: whether the other calls, of which so many of each row are done, can come behind these; a call that had ended when another began is ahead of it.
func (s *search) goesOn(done []int, order []*asked, m *model) bool {
	key := fmt.Sprintf("%v %+v %+v", done, m.state, m.talkers)
	if s.tried[key] > 0 {
		return false
	}
	s.tried[key]++
	ended := true
	for i, row := range s.rows {
		if done[i] == len(row) {
			continue
		}
		ended = false
		a := row[done[i]]
		next := append(slices.Clone(order), a)
		if !s.mayBeNext(done, a) || !s.answersAlike(next) {
			continue
		}
		then := slices.Clone(done)
		then[i]++
		if s.goesOn(then, next, a.askModel(m)) {
			return true
		}
	}
	return ended
}

func (s *search) mayBeNext(done []int, a *asked) bool {
	for i, row := range s.rows {
		if done[i] < len(row) && row[done[i]].end < a.begin {
			return false
		}
	}
	return true
}

// answersAlike: whether a server that is asked in this order answers the last call just so; the others are known to.
func (s *search) answersAlike(order []*asked) bool {
	server, _, _ := mailbag.Open(s.files)
	answer := ""
	for _, a := range order {
		answer = a.ask(server)
	}
	return answer == order[len(order)-1].answer
}

// askModel: what is behind the call.
func (a *asked) askModel(m *model) *model {
	m = m.clone()
	switch a.conn {
	case aDelivery:
		m.deliver(a.folder, a.text)
	case aLook:
	default:
		m.feed(a.conn, a.text)
	}
	return m
}

// wantOneOrder: the calls were done as wholes.
func wantOneOrder(t *testing.T, files []api.File, rows [][]*asked) {
	t.Helper()
	state, _ := stateOf(files)
	s := &search{files, rows, map[string]int{}}
	if s.goesOn(make([]int, len(rows)), nil, newModel(state)) {
		return
	}
	for _, row := range rows {
		for _, a := range row {
			t.Logf("%d to %d: %d %s %q: %s", a.begin, a.end, a.conn, a.folder, a.text, a.answer)
		}
	}
	t.Fatal("P13: the calls answer as in no order")
}

// overlaps: how many pairs of calls were under way at once.
func overlaps(rows [][]*asked) int {
	count := 0
	for i, row := range rows {
		for _, other := range rows[:i] {
			for _, a := range row {
				for _, b := range other {
					if a.begin < b.end && b.begin < a.end {
						count++
					}
				}
			}
		}
	}
	return count
}

// randomRows: three connections, two that deliver, one that looks at the files.
func randomRows(rng *rand.Rand) [][]*asked {
	rows := make([][]*asked, 6)
	for conn := range 3 {
		talk := "o OPEN in\n"
		for range 10 + rng.Intn(12) {
			talk += randomLine(rng)
		}
		for len(talk) > 0 {
			n := min(len(talk), 1+rng.Intn(150))
			rows[conn] = append(rows[conn], &asked{conn: conn, text: talk[:n]})
			talk = talk[n:]
		}
	}
	for i := range 4 {
		rows[3] = append(rows[3], &asked{conn: aDelivery, folder: pick(rng, "in", "a", "É"), text: strconv.Itoa(i)})
		rows[4] = append(rows[4], &asked{conn: aDelivery, folder: pick(rng, "in", "q"), text: strconv.Itoa(i + 4)})
		rows[5] = append(rows[5], &asked{conn: aLook})
	}
	return rows
}

// Whatever calls are under way at once, what they answer, and what they do, is that of the calls one behind the other.
func TestRandomCallsAtOnce(t *testing.T) {
	rng := rand.New(rand.NewSource(91))
	together := 0
	for range 150 {
		s, _ := open(t, threeFolders())
		rows := randomRows(rng)
		askAtOnce(s, rows)
		together += overlaps(rows)
		wantOneOrder(t, threeFolders(), rows)
	}
	t.Logf("%d pairs of calls were under way at once", together)
}

// All lines of a chunk are answered ahead of any other call.
func TestChunksAtOnce(t *testing.T) {
	for range 100 {
		s, _ := open(t, f("in/list", empty))
		rows := make([][]*asked, 3)
		for conn := range rows {
			for range 6 {
				rows[conn] = append(rows[conn], &asked{conn: conn, text: "a OPEN in\nb ADD in d 1\nx\nc ADD in - 1\ny\nd PLUS 1:* d\ne GET 1:* UFT\nf SWEEP\ng FIND ALL\n"})
			}
		}
		askAtOnce(s, rows)
		seen := map[string]int{}
		for _, row := range rows {
			for _, a := range row {
				seen[a.answer[:strings.Index(a.answer, " OK")]]++
			}
		}
		for k := range 18 {
			// Each finds the folder empty, as the others leave it.
			begin := fmt.Sprintf("%q", fmt.Sprintf("* EPOCH 1\n* NEXT %d\n* COUNT 0\na", 1+2*k))
			if begin = strings.TrimSuffix(begin, "\""); seen[begin] != 1 {
				t.Fatalf("P13: %q was answered %d times: %v", begin, seen[begin], seen)
			}
		}
		wantDiskOfFiles(t, s, f("in/list", withSum("1 37\n")))
	}
}

func wantDiskOfFiles(t *testing.T, s *mailbag.Server, want []api.File) {
	t.Helper()
	if got := s.Files(); !sameFiles(got, want) {
		t.Fatalf("P13: Files() = %q, want %q", got, want)
	}
}

// Servers need no order among one another.
func TestServersAtOnce(t *testing.T) {
	var group sync.WaitGroup
	for i := range 8 {
		p := newPair(t, threeFolders())
		rng := rand.New(rand.NewSource(int64(92 + i)))
		group.Add(1)
		go func() {
			defer group.Done()
			for range 100 {
				conn, chunk := rng.Intn(3), randomLine(rng)
				want, wantErrno := p.m.feed(conn, chunk)
				if got, _, errno := p.s.Feed(conn, chunk); got != want || errno != wantErrno {
					t.Errorf("P2: Feed(%d, %q) = %q, %d, want %q, %d", conn, chunk, got, errno, want, wantErrno)
				}
				mailbag.Open(threeFolders())
			}
		}()
	}
	group.Wait()
}
