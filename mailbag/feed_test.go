package mailbag_test

import (
	"fmt"
	"strconv"
	"strings"
	"testing"

	"mailbag/api"
	"mailbag/mailbag"
)

// server: one that is talked to, and its disk.
type server struct {
	t *testing.T
	s *mailbag.Server
	d *disk
}

func serve(t *testing.T, files []api.File) *server {
	t.Helper()
	s, d := open(t, files)
	return &server{t, s, d}
}

// on: chunks and answers in turns; what is to be done is done.
func (s *server) on(conn int, words ...string) {
	s.t.Helper()
	for i := 0; i < len(words); i += 2 {
		got, acts, errno := s.s.Feed(conn, words[i])
		if got != words[i+1] || errno != api.OK {
			s.t.Fatalf("P10: Feed(%d, %q) = %q, %d, want %q, OK", conn, words[i], got, errno, words[i+1])
		}
		s.d.do(s.t, acts)
		wantDisk(s.t, s.s, s.d, s.s.Files())
	}
}

// files: the disk has these, by rising names.
func (s *server) files(words ...string) {
	s.t.Helper()
	wantDisk(s.t, s.s, s.d, f(words...))
}

// still: chunks and answers in turns, by which nothing is done.
func (s *server) still(conn int, words ...string) {
	s.t.Helper()
	before := s.s.Files()
	for i := 0; i < len(words); i += 2 {
		got, acts, errno := s.s.Feed(conn, words[i])
		if got != words[i+1] || len(acts) > 0 || errno != api.OK {
			s.t.Fatalf("P10: Feed(%d, %q) = %q, %v, %d, want %q, nothing done, OK", conn, words[i], got, acts, errno, words[i+1])
		}
	}
	wantDisk(s.t, s.s, s.d, before)
}

// refuse: a call that is an error.
func (s *server) refuse(conn int, chunk string, want api.Errno) {
	s.t.Helper()
	before := s.s.Files()
	if got, acts, errno := s.s.Feed(conn, chunk); got != "" || acts != nil || errno != want {
		s.t.Errorf("P10: Feed(%d, %.40q) = %q, %v, %d, want nothing, %d", conn, chunk, got, acts, errno, want)
	}
	wantDisk(s.t, s.s, s.d, before)
}

func TestTheDocumentsExamples(t *testing.T) {
	s := serve(t, nil)
	s.on(0, "a MAKE in\n", "a OK\n")
	s.files("in/list", "1 1\n57398\n")
	s.on(0, "b ADD in s 2\nhi\n", "+\nb OK\n")
	s.files("in/1.s", "hi", "in/list", withSum("1 2\n1 1 s\n"))
	s.on(0, "c OPEN in\n", "* EPOCH 1\n* NEXT 2\n* COUNT 1\nc OK\n")
	s.still(0, "d GET 1 UFST\n", "* 1 GET U 1 F s S 2 T {2}\nhi\nd OK\n")
	deliver(t, s.s, s.d, "in", "yo", 2)
	s.still(0, "e NOOP\n", "* COUNT 2\ne OK\n")
	s.on(0, "f PLUS 1:* d\n", "* 1 FLAGS ds\n* 2 FLAGS d\nf OK\n")
	s.files("in/1.s", "hi", "in/2.", "yo", "in/list", withSum("1 3\n1 1 ds\n2 2 d\n"))
	s.on(0, "g SWEEP\n", "* 1 GONE\n* 1 GONE\ng OK\n")
	s.files("in/list", withSum("1 3\n"))
	s.still(0, "h GET 1 U\n", "h NO\n", "i GET 0 U\n", "i BAD\n", "x\n", "x BAD\n", " \n", "* BAD\n")
}

func TestMake(t *testing.T) {
	s := serve(t, nil)
	s.still(0, "a LIST\n", "a OK\n")
	s.on(0, "a MAKE in\n", "a OK\n")
	for _, name := range []string{"in", "a\x80", "\xff", "a\x7f", "\ufffd", "nineninin", "ééééééééé", "\t", "a\x00", "a\r"} {
		s.still(0, "b MAKE "+name+"\n", "b NO\n")
	}
	s.on(0, "c MAKE A\n", "c OK\n", "d MAKE =41=\n", "d OK\n", "e MAKE \U0010ffff\U0010ffff\U0010ffff\U0010ffff\U0010ffff\U0010ffff\U0010ffff\U0010ffff\n", "e OK\n")
	// In the order of the codes: =10ffff=.., =3d=41=3d=, =41=, in.
	list := "* FOLDER " + strings.Repeat("\U0010ffff", 8) + "\n* FOLDER =41=\n* FOLDER A\n* FOLDER in\n"
	s.still(0, "f LIST\n", list+"f OK\n", "g MAKE x\n", "g NO\n", "h MAKE in\n", "h NO\n", "i LIST\n", list+"i OK\n")
	s.files(strings.Repeat("=10ffff=", 8)+"/list", withSum("4 1\n"), "=3d=41=3d=/list", withSum("3 1\n"), "=41=/list", withSum("2 1\n"), "in/list", empty)
}

func TestTheGreatestEpoch(t *testing.T) {
	s := serve(t, f("in/list", withSum("98 1\n")))
	s.on(0, "a MAKE a\n", "a OK\n", "b OPEN a\n", "* EPOCH 99\n* NEXT 1\n* COUNT 0\nb OK\n")
	s.still(0, "c MAKE b\n", "c NO\n")
	s.on(0, "d SHUT\ne REMOVE a\n", "d OK\ne OK\n")
	s.files("epoch/99", "", "in/list", withSum("98 1\n"))
	s.still(0, "f MAKE a\n", "f NO\n")
	// Epochs' files count too, also those without folders.
	for _, c := range []struct {
		files  []api.File
		answer string
	}{
		{f("epoch/99", ""), "a NO\n"},
		{f("epoch/98", ""), "a OK\n"},
		{f("epoch/98", "", "in/list", withSum("99 1\n")), "a NO\n"},
		{f("epoch/100", ""), "a OK\n"},
	} {
		serve(t, c.files).on(1, "a MAKE x\n", c.answer)
	}
}

func TestEpochsThatAreGiven(t *testing.T) {
	s := serve(t, f("b/list", withSum("7 3\n"), "epoch/4", "", "a/list", withSum("2 1\n")))
	s.on(0, "a MAKE c\n", "a OK\n")
	s.files("a/list", withSum("2 1\n"), "b/list", withSum("7 3\n"), "c/list", withSum("8 1\n"), "epoch/4", "")
	// The epoch of the disk stays, though the folder that had it goes.
	s.on(0, "b REMOVE c\n", "b OK\n")
	s.files("a/list", withSum("2 1\n"), "b/list", withSum("7 3\n"), "epoch/8", "")
	s.on(0, "c MAKE c\n", "c OK\n", "d REMOVE a\n", "d OK\n")
	s.files("b/list", withSum("7 3\n"), "c/list", withSum("9 1\n"), "epoch/9", "")
	// An epoch's file that is as great already stays as it is.
	s.on(0, "e REMOVE b\n", "e OK\n", "f REMOVE c\n", "f OK\n")
	s.files("epoch/9", "")
	s.on(0, "g MAKE c\n", "g OK\n")
	s.files("c/list", withSum("10 1\n"), "epoch/9", "")
	great := serve(t, f("a/list", withSum("2 1\n"), "epoch/50", "", "epoch/list", withSum("3 1\n")))
	great.on(0, "a REMOVE a\n", "a OK\n", "b REMOVE epoch\n", "b OK\n")
	great.files("epoch/50", "")
}

func TestRemove(t *testing.T) {
	s := serve(t, threeFolders())
	s.still(0, "a REMOVE q\n", "a NO\n", "b REMOVE =c9=\n", "b NO\n", "c REMOVE \xff\n", "c NO\n")
	s.still(0, "d OPEN in\n", "* EPOCH 3\n* NEXT 9\n* COUNT 3\nd OK\n", "e REMOVE in\n", "e NO\n")
	s.still(1, "a REMOVE in\n", "a NO\n", "b LOOK a\n", "* EPOCH 4\n* NEXT 8\n* COUNT 6\nb OK\n")
	s.still(0, "f REMOVE a\n", "f NO\n")
	s.on(0, "g REMOVE É\n", "g OK\n")
	a := f("a/1.", "1", "a/2.", "2", "a/3.", "3", "a/4.", "4", "a/5.", "5", "a/6.", "6", "a/list", withSum("4 8\n1 1 -\n2 2 -\n3 3 -\n4 4 d\n5 5 -\n6 7 -\n"))
	wantDisk(t, s.s, s.d, join(a, f("epoch/5", "", "in/1.", "", "in/2.f", "abab", "in/7.", "a\nb", "in/list", withSum("3 9\n2 1 s\n1 5 -\n7 8 ad\n"), "other", "o")))
	// Whatever shuts a folder lets it be removed.
	s.still(0, "h OPEN q\n", "h NO\n")
	s.on(2, "a REMOVE in\n", "a OK\n")
	wantDisk(t, s.s, s.d, join(a, f("epoch/5", "", "other", "o")))
	s.still(1, "c BYE\n", "* BYE\nc OK\n")
	s.on(0, "i REMOVE a\n", "i OK\n", "j LIST\n", "j OK\n", "k MAKE a\n", "k OK\n")
	s.files("a/list", withSum("6 1\n"), "epoch/5", "", "other", "o")
	s.on(0, "l OPEN a\n", "* EPOCH 6\n* NEXT 1\n* COUNT 0\nl OK\n", "m OPEN a\nn SHUT\no REMOVE a\n", "* EPOCH 6\n* NEXT 1\n* COUNT 0\nm OK\nn OK\no OK\n")
}

func TestOpenAndLook(t *testing.T) {
	s := serve(t, join(threeFolders(), f("end/list", withSum("9 100\n"))))
	s.still(0, "a OPEN end\n", "* EPOCH 9\n* NEXT 100\n* COUNT 0\na OK\n", "b LOOK a\n", "* EPOCH 4\n* NEXT 8\n* COUNT 6\nb OK\n")
	// What is opened by LOOK is opened by OPEN as well, and the other way round.
	s.still(0, "c PLUS 1 s\n", "c NO\n", "d MINUS 1 s\n", "d NO\n", "e SWEEP\n", "e NO\n", "f GET 4 F\n", "* 4 GET F d\nf OK\n")
	s.on(0, "g OPEN a\nh PLUS 1 s\n", "* EPOCH 4\n* NEXT 8\n* COUNT 6\ng OK\n* 1 FLAGS s\nh OK\n", "i SWEEP\n", "* 4 GONE\ni OK\n")
	s.still(0, "j LOOK a\n", "* EPOCH 4\n* NEXT 8\n* COUNT 5\nj OK\n", "k SWEEP\n", "k NO\n")
	for _, name := range []string{"q", "=c9=", "\xff", "In", "in/"} {
		s.still(0, "l OPEN in\n", "* EPOCH 3\n* NEXT 9\n* COUNT 3\nl OK\n", "m OPEN "+name+"\n", "m NO\n", "n GET 1 U\n", "n BAD\n", "o SHUT\n", "o BAD\n")
		s.still(0, "l LOOK in\n", "* EPOCH 3\n* NEXT 9\n* COUNT 3\nl OK\n", "m LOOK "+name+"\n", "m NO\n", "n GET 1 U\n", "n BAD\n", "o SHUT\n", "o BAD\n")
	}
	// A line that is wrong shuts nothing.
	s.still(0, "p OPEN in\n", "* EPOCH 3\n* NEXT 9\n* COUNT 3\np OK\n", "q OPEN q q\n", "q BAD\n", "r GET 1 U\n", "* 1 GET U 1\nr OK\n")
}

func TestAdd(t *testing.T) {
	s := serve(t, f("in/list", withSum("3 5\n2 4 -\n"), "in/2.", "two"))
	s.on(0, "a ADD in adfs 0\n", "+\n", "\n", "a OK\n")
	s.files("in/1.adfs", "", "in/2.", "two", "in/list", withSum("3 6\n2 4 -\n1 5 adfs\n"))
	s.on(0, "b ADD in - 3\n\n\n\n\n", "+\nb OK\n")
	s.on(0, "c ADD in d 13\nx ADD in - 2\n\nd NOOP\n", "+\nc OK\nd OK\n")
	s.files("in/1.adfs", "", "in/2.", "two", "in/3.", "\n\n\n", "in/4.d", "x ADD in - 2\n", "in/list", withSum("3 8\n2 4 -\n1 5 adfs\n3 6 -\n4 7 d\n"))
	// A folder that is not there, or no name, is told behind the text.
	for _, name := range []string{"q", "\xff", "=69=n", "-", "nineninin"} {
		s.still(0, "e ADD "+name+" s 2\n", "+\n", "e\n", "", "\n", "e NO\n")
	}
	all := ""
	for i := range 40 {
		all += string([]byte{byte(i * 7)})
	}
	s.on(0, "f ADD in s 40\n"+all+"\n", "+\nf OK\n", "g OPEN in\nh GET 5 ST\n", "* EPOCH 3\n* NEXT 9\n* COUNT 5\ng OK\n* 5 GET S 40 T {40}\n"+all+"\nh OK\n")
	// The view tells it, in whatever folder it is.
	s.on(0, "i MAKE a\nj ADD a - 1\nx\n", "i OK\n+\nj OK\n", "k ADD in - 1\nx\n", "+\n* COUNT 6\nk OK\n")
	deliver(t, s.s, s.d, "in", "d", 10)
	s.on(0, "l ADD a - 1\nx\n", "+\n* COUNT 7\nl OK\n", "m ADD in - 1\nx\n", "+\n* COUNT 8\nm OK\n")
	s.still(0, "n ADD in - 1\nx\n", "+\nn NO\n")
}

func TestWhatComesBehindAText(t *testing.T) {
	s := serve(t, f("in/list", empty))
	s.still(0, "a ADD in - 0\nx", "+\na BAD\n", "y NOOP", "", "\n", "", "b NOOP\n", "b OK\n")
	s.still(0, "a ADD in - 2\nxy ", "+\na BAD\n", strings.Repeat("y", 300), "", "\nb NOOP\n", "b OK\n")
	s.still(0, "a ADD q - 2\nxy\r\nb NOOP\n", "+\na BAD\nb OK\n")
	s.still(0, "a ADD in - 40\n"+strings.Repeat("\n", 40)+"b NOOP\nc NOOP\n", "+\na BAD\nc OK\n")
	// A wrong line has no text.
	s.still(0, "a ADD in - 41\nb NOOP\n", "a BAD\nb OK\n", "a ADD in x 2\nb NOOP\n", "a BAD\nb OK\n")
	s.still(0, "o OPEN in\n", "* EPOCH 1\n* NEXT 1\n* COUNT 0\no OK\n")
	deliver(t, s.s, s.d, "in", "x", 1)
	// BAD brings no view up to date, NO does.
	s.still(0, "a ADD in - 0\nx\n", "+\na BAD\n", "b ADD q - 0\n\n", "+\n* COUNT 1\nb NO\n")
}

func TestFullFolders(t *testing.T) {
	for count := range 9 {
		for next := 95; next <= 100; next++ {
			list := "1 " + strconv.Itoa(next) + "\n"
			for i := range count {
				list += fmt.Sprintf("%d %d -\n", i+1, i+1)
			}
			room := min(8-count, 100-next)
			s := serve(t, join(many(count, "in/#."), f("in/list", withSum(list), "a/list", withSum("2 20\n1 1 s\n2 2 -\n3 3 d\n"), "a/1.", "x", "a/2.", "y", "a/3.d", "z")))
			s.on(0, "a OPEN a\n", "* EPOCH 2\n* NEXT 20\n* COUNT 3\na OK\n")
			// All three, then two, then one.
			for n, set := range []string{"1:3", "1,3", "2"} {
				if n = 3 - n; n > room {
					s.still(0, "b COPY "+set+" in\n", "b NO\n")
				} else {
					s.on(0, "b COPY "+set+" in\n", "b OK\n")
					room -= n
				}
			}
			for ; room > 0; room-- {
				s.on(1, "c ADD in - 1\nx\n", "+\nc OK\n")
			}
			s.still(1, "c ADD in - 1\nx\n", "+\nc NO\n")
			s.still(0, "d COPY 1 in\n", "d NO\n")
			refuseDeliver(t, s.s, "in", "x", api.ErrFull)
		}
	}
}

func TestGet(t *testing.T) {
	s := serve(t, threeFolders())
	s.on(0, "a OPEN in\n", "* EPOCH 3\n* NEXT 9\n* COUNT 3\na OK\n")
	s.still(0, "b GET 1:* U\n", "* 1 GET U 1\n* 2 GET U 5\n* 3 GET U 8\nb OK\n",
		"c GET 1:* F\n", "* 1 GET F s\n* 2 GET F -\n* 3 GET F ad\nc OK\n",
		"d GET 1:* S\n", "* 1 GET S 4\n* 2 GET S 0\n* 3 GET S 3\nd OK\n",
		"e GET 1:* T\n", "* 1 GET T {4}\nabab\n* 2 GET T {0}\n\n* 3 GET T {3}\na\nb\ne OK\n",
		"f GET 3 TUSF\n", "* 3 GET T {3}\na\nb U 8 S 3 F ad\nf OK\n")
	told := map[byte]string{'U': " U 8", 'F': " F ad", 'S': " S 3", 'T': " T {3}\na\nb"}
	right := 0
	for _, items := range wordsOf("UFSTu", 5) {
		want := "* 3 GET"
		for i := range len(items) {
			want += told[items[i]]
		}
		want += "\ng OK\n"
		if twice(items) || strings.Contains(items, "u") || items == "" {
			want = "g BAD\n"
		} else {
			right++
		}
		s.still(0, "g GET * "+items+"\n", want)
	}
	if right != 64 {
		t.Errorf("there are %d right items, want 64", right)
	}
}

// wordsOf: all words of these letters, up to this length.
func wordsOf(letters string, most int) []string {
	all := []string{""}
	for begin := 0; most > 0; most-- {
		end := len(all)
		for _, word := range all[begin:end] {
			for _, r := range letters {
				all = append(all, word+string(r))
			}
		}
		begin = end
	}
	return all
}

func TestSets(t *testing.T) {
	s := serve(t, threeFolders())
	s.on(0, "a OPEN a\n", "* EPOCH 4\n* NEXT 8\n* COUNT 6\na OK\n")
	for set, places := range map[string]string{
		"1": "1", "6": "6", "*": "6", "1:1": "1", "*:*": "6", "1:*": "123456", "*:1": "123456", "5:*": "56", "*:5": "56", "2:4": "234", "4:2": "234",
		"1,1": "1", "1,1,1:1": "1", "3,1": "13", "6,*": "6", "4:2,3:5": "2345", "1:2,5:6": "1256", "6:5,2:1": "1256", "6,5,4,3,2,1": "123456", "2,*,1": "126",
		"7": "NO", "999": "NO", "1,7": "NO", "7,1": "NO", "1:7": "NO", "7:1": "NO", "7:*": "NO", "*:7": "NO", "1,999": "NO", "7:8": "NO", "999:999": "NO",
		"0": "BAD", "1000": "BAD", "": "BAD", ",": "BAD", ":": "BAD", "1,": "BAD", ",1": "BAD", "1,,1": "BAD", "1:": "BAD", ":1": "BAD", "1::1": "BAD", "1:1:1": "BAD", "01": "BAD", "+1": "BAD", "-1": "BAD", "1-2": "BAD", "**": "BAD", "*1": "BAD", "1*": "BAD", "a": "BAD", "1.": "BAD", "0:1": "BAD", "1:0": "BAD", "00": "BAD", "1000:1": "BAD", "7,0": "BAD", "٣": "BAD", "1;2": "BAD", "99999999999999999999": "BAD",
	} {
		want := ""
		switch places {
		case "NO", "BAD":
			want = "b " + places + "\n"
		default:
			for _, r := range places {
				uid := strings.Replace(string(r), "6", "7", 1)
				want += "* " + string(r) + " GET U " + uid + "\n"
			}
			want += "b OK\n"
		}
		s.still(0, "b GET "+set+" U\n", want)
	}
	// Of an empty view no set has places.
	s.on(0, "c MAKE e\nd OPEN e\n", "c OK\n* EPOCH 6\n* NEXT 1\n* COUNT 0\nd OK\n")
	for _, set := range []string{"1", "*", "1:*", "*:*", "999"} {
		s.still(0, "e GET "+set+" U\n", "e NO\n", "f PLUS "+set+" s\n", "f NO\n", "g COPY "+set+" in\n", "g NO\n", "h MINUS "+set+" s\n", "h NO\n")
	}
}

func TestPlusAndMinus(t *testing.T) {
	for _, have := range everyFlags {
		for _, asked := range everyFlags {
			s := serve(t, f("in/list", withSum("1 9\n3 4 "+dash(have)+"\n4 8 s\n"), "in/3.af", "x", "in/4.", "y"))
			s.still(0, "a OPEN in\n", "* EPOCH 1\n* NEXT 9\n* COUNT 2\na OK\n")
			if asked == "" {
				s.still(0, "b PLUS 1 -\n", "b BAD\n", "c MINUS 1 -\n", "c BAD\n", "d PLUS 1 \n", "d BAD\n")
				continue
			}
			plus, minus := "", ""
			for _, r := range "adfs" {
				if strings.ContainsRune(have+asked, r) {
					plus += string(r)
				}
				if strings.ContainsRune(plus, r) && !strings.ContainsRune(asked, r) {
					minus += string(r)
				}
			}
			news := func(now, then string) string {
				if now == then {
					return ""
				}
				return "* 1 FLAGS " + dash(now) + "\n"
			}
			s.on(0, "b PLUS 1 "+asked+"\n", news(plus, have)+"b OK\n")
			s.files("in/3.af", "x", "in/4.", "y", "in/list", withSum("1 9\n3 4 "+dash(plus)+"\n4 8 s\n"))
			s.still(0, "c PLUS 1 "+asked+"\n", "c OK\n")
			s.on(0, "d MINUS 1 "+asked+"\n", news(minus, plus)+"d OK\n")
			s.files("in/3.af", "x", "in/4.", "y", "in/list", withSum("1 9\n3 4 "+dash(minus)+"\n4 8 s\n"))
			s.still(0, "e MINUS 1 "+asked+"\n", "e OK\n")
		}
	}
	s := serve(t, threeFolders())
	s.on(0, "a OPEN in\n", "* EPOCH 3\n* NEXT 9\n* COUNT 3\na OK\n", "b PLUS 3,1 s\n", "* 3 FLAGS ads\nb OK\n", "c MINUS 1:* as\n", "* 1 FLAGS -\n* 3 FLAGS d\nc OK\n")
	for _, flags := range []string{"sd", "aa", "x", "A", "a-", "-a", "a,d"} {
		s.still(0, "d PLUS 1 "+flags+"\n", "d BAD\n", "e MINUS 1 "+flags+"\n", "e BAD\n")
	}
}

func TestFind(t *testing.T) {
	s := serve(t, f("in/list", withSum("1 9\n1 1 -\n2 2 a\n3 3 ds\n4 4 adfs\n5 5 s\n"), "in/1.", "", "in/2.", "a", "in/3.", "a b\nab", "in/4.", strings.Repeat("=", 40), "in/5.", "é\x00\xff"))
	s.on(0, "o OPEN in\n", "* EPOCH 1\n* NEXT 9\n* COUNT 5\no OK\n")
	for keys, places := range map[string]string{
		"ALL": "1 2 3 4 5", "ALL ALL": "1 2 3 4 5", "+a": "2 4", "+s": "3 4 5", "+ds": "3 4", "+adfs": "4", "+af": "4", "-a": "1 3 5", "-s": "1 2", "-ad": "1 5", "-adfs": "1", "+s -d": "5", "-d +s": "5", "+a -a": "",
		">0": "2 3 4 5", ">1": "3 4 5", ">4": "3 4", ">6": "4", ">5": "3 4", ">39": "4", ">40": "", ">999": "",
		"=a": "2 3", "=b": "3", "=ab": "3", "=ba": "", "==": "4", "=" + strings.Repeat("=", 40): "4", "=" + strings.Repeat("=", 41): "", "=é": "5", "=\xc3": "5", "=\xa9\x00": "5", "=\xff": "5", "=A": "", "=ALL": "",
		"ALL =a >1 +s": "3", "=a =b": "3", "=a =z": "",
	} {
		want := "* FIND " + places + "\na OK\n"
		if places == "" {
			want = "* FIND\na OK\n"
		}
		s.still(0, "a FIND "+keys+"\n", want)
	}
	for _, keys := range []string{"", "all", "ALL ", " ALL", "ALL  ALL", "+", "-", ">", "=", "+-", "--", "+sd", "-aa", "+x", "->1", ">-1", ">+1", ">01", ">00", ">1000", ">a", ">1.", "a", "s", "ALLS", "A", "AL", "?", "ALL +", "= a", "<1", "*", "1", "+a,d", ">99999999999999999999"} {
		s.still(0, "a FIND "+keys+"\n", "a BAD\n")
	}
	s.still(0, "a FIND\n", "a BAD\n")
	none := serve(t, f("in/list", empty))
	none.still(0, "o OPEN in\n", "* EPOCH 1\n* NEXT 1\n* COUNT 0\no OK\n", "a FIND ALL\n", "* FIND\na OK\n")
}

func TestCopy(t *testing.T) {
	s := serve(t, f("in/list", withSum("1 9\n3 4 s\n1 8 ad\n"), "in/3.af", "x", "in/1.", "y\n", "a/list", withSum("2 1\n")))
	s.on(0, "o OPEN in\n", "* EPOCH 1\n* NEXT 9\n* COUNT 2\no OK\n")
	s.still(0, "a COPY 1 q\n", "a NO\n", "b COPY 3 a\n", "b NO\n", "c COPY 1 \xff\n", "c NO\n", "d COPY 1,3 a\n", "d NO\n")
	s.on(0, "e COPY 2,1 a\n", "e OK\n")
	in := f("in/1.", "y\n", "in/3.af", "x", "in/list", withSum("1 9\n3 4 s\n1 8 ad\n"))
	wantDisk(t, s.s, s.d, join(f("a/1.s", "x", "a/2.ad", "y\n", "a/list", withSum("2 3\n1 1 s\n2 2 ad\n")), in))
	// Into the folder from which they come: only those that were meant.
	s.on(0, "f COPY 1:* in\n", "* COUNT 4\nf OK\n", "g GET 1:* UFT\n", "* 1 GET U 4 F s T {1}\nx\n* 2 GET U 8 F ad T {2}\ny\n\n* 3 GET U 9 F s T {1}\nx\n* 4 GET U 10 F ad T {2}\ny\n\ng OK\n")
	wantDisk(t, s.s, s.d, join(f("a/1.s", "x", "a/2.ad", "y\n", "a/list", withSum("2 3\n1 1 s\n2 2 ad\n")), f("in/1.", "y\n", "in/2.s", "x", "in/3.af", "x", "in/4.ad", "y\n", "in/list", withSum("1 11\n3 4 s\n1 8 ad\n2 9 s\n4 10 ad\n"))))
	// LOOK does not stand in the way of it.
	s.on(0, "h LOOK in\n", "* EPOCH 1\n* NEXT 11\n* COUNT 4\nh OK\n", "i COPY 1 in\n", "* COUNT 5\ni OK\n", "j COPY 1:5 in\n", "j NO\n", "k COPY 1:3 in\n", "* COUNT 8\nk OK\n", "l COPY 1 in\n", "l NO\n")
}

func TestSweep(t *testing.T) {
	s := serve(t, f("in/list", withSum("1 9\n3 2 d\n1 4 s\n2 5 -\n5 8 ad\n"), "in/3.", "", "in/1.d", "", "in/2.", "", "in/5.", ""))
	s.on(0, "o OPEN in\n", "* EPOCH 1\n* NEXT 9\n* COUNT 4\no OK\n", "a SWEEP\n", "* 1 GONE\n* 3 GONE\na OK\n")
	s.files("in/1.d", "", "in/2.", "", "in/list", withSum("1 9\n1 4 s\n2 5 -\n"))
	s.still(0, "b SWEEP\n", "b OK\n", "c GET 1:* U\n", "* 1 GET U 4\n* 2 GET U 5\nc OK\n")
	// A message that the view does not have goes too.
	s.on(1, "a ADD in d 0\n\n", "+\na OK\n", "b ADD in s 0\n\n", "+\nb OK\n")
	s.on(0, "d SWEEP\n", "* COUNT 3\nd OK\n", "e GET 3 UF\n", "* 3 GET U 10 F s\ne OK\n")
	s.files("in/1.d", "", "in/2.", "", "in/4.s", "", "in/list", withSum("1 11\n1 4 s\n2 5 -\n4 10 s\n"))
	// Keys are given anew, UIDs never.
	s.on(0, "f PLUS 1:* d\ng SWEEP\n", "* 1 FLAGS ds\n* 2 FLAGS d\n* 3 FLAGS ds\nf OK\n* 1 GONE\n* 1 GONE\n* 1 GONE\ng OK\n", "h ADD in - 0\n\n", "+\n* COUNT 1\nh OK\n", "i GET * U\n", "* 1 GET U 11\ni OK\n")
	s.files("in/1.", "", "in/list", withSum("1 12\n1 11 -\n"))
}

// Each line, on a view of which one message is gone, one has other flags, and one is new.
func TestHowTheViewIsBroughtUpToDate(t *testing.T) {
	gone, news := "* 2 GONE\n", "* COUNT 3\n* 1 FLAGS f\n"
	kept := "* COUNT 4\n* 1 FLAGS f\n"
	for line, want := range map[string]string{
		"NOOP":            gone + news + "a OK\n",
		"LIST":            "* FOLDER b\n* FOLDER in\n" + gone + news + "a OK\n",
		"MAKE q":          gone + news + "a OK\n",
		"MAKE b":          gone + news + "a NO\n",
		"REMOVE b":        gone + news + "a OK\n",
		"REMOVE in":       gone + news + "a NO\n",
		"ADD b - 0\n":     "+\n" + gone + news + "a OK\n",
		"ADD q - 0\n":     "+\n" + gone + news + "a NO\n",
		"ADD in s 0\n":    "+\n" + gone + "* COUNT 4\n* 1 FLAGS f\na OK\n",
		"ADD q - 0\nx":    "+\na BAD\n",
		"COPY 1 b":        gone + news + "a OK\n",
		"COPY 4 b":        gone + news + "a NO\n",
		"COPY 1 in":       gone + "* COUNT 4\n* 1 FLAGS f\na OK\n",
		"COPY 2 b":        gone + news + "a OK\n",
		"SWEEP":           gone + news + "a OK\n",
		"GET 1:3 UF":      "* 1 GET U 1 F f\n* 3 GET U 3 F -\n" + kept + "a OK\n",
		"GET 2 UF":        kept + "a OK\n",
		"GET 4 U":         kept + "a NO\n",
		"GET * U":         "* 3 GET U 3\n" + kept + "a OK\n",
		"PLUS 1:* s":      "* COUNT 4\n* 1 FLAGS fs\n* 3 FLAGS s\na OK\n",
		"PLUS 4 s":        kept + "a NO\n",
		"PLUS 2 s":        kept + "a OK\n",
		"MINUS 1 f":       "* COUNT 4\na OK\n",
		"MINUS 4 f":       kept + "a NO\n",
		"FIND ALL":        "* FIND 1 3\n" + kept + "a OK\n",
		"FIND +f":         "* FIND 1\n" + kept + "a OK\n",
		"FIND =x":         "* FIND 1 3\n" + kept + "a OK\n",
		"SHUT":            "a OK\n",
		"OPEN b":          "* EPOCH 2\n* NEXT 1\n* COUNT 0\na OK\n",
		"OPEN in":         "* EPOCH 1\n* NEXT 5\n* COUNT 3\na OK\n",
		"LOOK in":         "* EPOCH 1\n* NEXT 5\n* COUNT 3\na OK\n",
		"OPEN q":          "a NO\n",
		"LOOK q":          "a NO\n",
		"BYE":             "* BYE\na OK\n",
		"NOPE":            "a BAD\n",
		"GET 0 U":         "a BAD\n",
		"NOOP\na NOOP":    gone + news + "a OK\na OK\n",
		"FIND >1\na NOOP": "* FIND\n" + kept + "a OK\n* 2 GONE\na OK\n",
	} {
		s := serve(t, f("in/list", withSum("1 4\n1 1 -\n2 2 d\n3 3 -\n"), "in/1.", "x", "in/2.", "x", "in/3.", "x", "b/list", withSum("2 1\n")))
		s.still(0, "o OPEN in\n", "* EPOCH 1\n* NEXT 4\n* COUNT 3\no OK\n")
		s.on(1, "o OPEN in\n", "* EPOCH 1\n* NEXT 4\n* COUNT 3\no OK\n", "p PLUS 1 f\nq SWEEP\n", "* 1 FLAGS f\np OK\n* 2 GONE\nq OK\n")
		deliver(t, s.s, s.d, "in", "x", 4)
		s.on(0, "a "+line+"\n", want)
	}
}

// A view keeps the places of messages that are gone until a line drops them.
func TestViewsOfMessagesThatAreGone(t *testing.T) {
	s := serve(t, join(f("in/list", withSum("1 9\n1 1 d\n2 2 d\n3 3 d\n4 4 d\n5 5 d\n6 6 d\n7 7 d\n8 8 d\n")), many(8, "in/#.")))
	s.still(0, "o OPEN in\n", "* EPOCH 1\n* NEXT 9\n* COUNT 8\no OK\n")
	s.on(1, "o OPEN in\na SWEEP\n", "* EPOCH 1\n* NEXT 9\n* COUNT 8\no OK\n* 1 GONE\n* 1 GONE\n* 1 GONE\n* 1 GONE\n* 1 GONE\n* 1 GONE\n* 1 GONE\n* 1 GONE\na OK\n")
	s.still(0, "a GET 1:* UFST\n", "a OK\n", "b FIND ALL\n", "* FIND\nb OK\n", "c GET 9 U\n", "c NO\n", "d GET 8 U\n", "d OK\n", "e PLUS * s\n", "e OK\n", "f MINUS 1:8 s\n", "f OK\n")
	// More than a folder can have, as those that are gone keep their places.
	count := 8
	for range 11 {
		for range 8 {
			s.on(1, "b ADD in d 1\nx\n", fmt.Sprintf("+\n* COUNT %d\nb OK\n", (count)%8+1))
			count++
			s.still(0, "g FIND -d\n", fmt.Sprintf("* FIND\n* COUNT %d\ng OK\n", count))
		}
		s.on(1, "c SWEEP\n", strings.Repeat("* 1 GONE\n", 8)+"c OK\n")
	}
	s.on(1, "d ADD in s 1\ny\n", "+\n* COUNT 1\nd OK\n")
	s.still(0, "h GET 97 U\n", "* COUNT 97\nh NO\n", "i GET 96:* U\n", "* 97 GET U 97\ni OK\n", "j FIND ALL\n", "* FIND 97\nj OK\n")
	// What is meant is there: messages that are gone need no room.
	s.still(0, "k COPY 1:96 q\n", strings.Repeat("* 1 GONE\n", 96)+"k NO\n", "l GET 1:* U\n", "* 1 GET U 97\nl OK\n")
}

func TestCopyOfNothing(t *testing.T) {
	s := serve(t, join(f("in/list", withSum("1 9\n1 1 d\n")), many(1, "in/#."), f("a/list", withSum("2 100\n1 92 -\n2 93 -\n3 94 -\n4 95 -\n5 96 -\n6 97 -\n7 98 -\n8 99 -\n")), many(8, "a/#.")))
	s.still(0, "o OPEN in\n", "* EPOCH 1\n* NEXT 9\n* COUNT 1\no OK\n")
	s.still(0, "a COPY 1 a\n", "a NO\n")
	s.on(1, "o OPEN in\na SWEEP\n", "* EPOCH 1\n* NEXT 9\n* COUNT 1\no OK\n* 1 GONE\na OK\n")
	// The one that is meant is gone, so nothing is copied, and nothing needs room.
	s.still(0, "b COPY 1 a\n", "* 1 GONE\nb OK\n", "c COPY 1 a\n", "c NO\n")
}

func TestBye(t *testing.T) {
	s := serve(t, f("in/list", empty))
	s.still(0, "a OPEN in\n", "* EPOCH 1\n* NEXT 1\n* COUNT 0\na OK\n")
	s.still(1, "a OPEN in\n", "* EPOCH 1\n* NEXT 1\n* COUNT 0\na OK\n")
	s.still(0, "b BYE\nc MAKE q\n* \n"+strings.Repeat("x", 100), "* BYE\nb OK\n")
	for _, chunk := range []string{"", "\n", "c NOOP\n", strings.Repeat("x", 2001)} {
		s.refuse(0, chunk, api.ErrConn)
	}
	s.still(1, "b NOOP\n", "b OK\n", "c BYE", "", "\n", "* BYE\nc OK\n")
	s.refuse(1, "", api.ErrConn)
	s.on(2, "a REMOVE in\n", "a OK\n", "b BYE\n", "* BYE\nb OK\n")
	s.refuse(2, "c NOOP\n", api.ErrConn)
	s.files("epoch/1", "")
	if got := s.s.Files(); len(got) != 1 {
		t.Errorf("P8: Files() = %q", got)
	}
}

func TestConnections(t *testing.T) {
	s := serve(t, nil)
	for _, conn := range []int{-1, 3, 4, 1 << 62, -1 << 63, 1<<63 - 1, 256, 1 << 32} {
		s.refuse(conn, "a MAKE q\n", api.ErrConn)
		s.refuse(conn, "", api.ErrConn)
		s.refuse(conn, strings.Repeat("x", 2001), api.ErrConn)
	}
	// Each has its own bytes, and its own folder.
	s.still(0, "a NO", "")
	s.still(1, "b LI", "")
	s.still(2, "\n", "* BAD\n")
	s.still(1, "ST\n", "b OK\n")
	s.still(0, "OP\n", "a OK\n")
	s.on(1, "c MAKE q\nd OPEN q\n", "c OK\n* EPOCH 1\n* NEXT 1\n* COUNT 0\nd OK\n")
	s.still(0, "a SHUT\n", "a BAD\n")
	s.still(1, "e SHUT\n", "e OK\n")
}

func TestChunks(t *testing.T) {
	s := serve(t, f("in/list", empty))
	s.still(0, "", "", "a NO", "", "", "")
	// A chunk that is too long is not taken: the line goes on behind it.
	s.refuse(0, strings.Repeat("x", api.MaxChunk+1), api.ErrLong)
	s.refuse(0, strings.Repeat("a MAKE q\n", 1000000), api.ErrLong)
	s.still(0, "OP\n", "a OK\n")
	s.still(0, strings.Repeat("\n", api.MaxChunk), strings.Repeat("* BAD\n", api.MaxChunk))
	s.on(0, "o OPEN in\np ADD in - 40\n"+strings.Repeat("y", 40)+"\nq COPY 1 in\nr COPY 1:2 in\ns COPY 1:4 in\n", "* EPOCH 1\n* NEXT 1\n* COUNT 0\no OK\n+\n* COUNT 1\np OK\n* COUNT 2\nq OK\n* COUNT 4\nr OK\n* COUNT 8\ns OK\n")
	want := ""
	for i := range 8 {
		want += fmt.Sprintf("* %d GET U %d F - S 40 T {40}\n%s\n", i+1, i+1, strings.Repeat("y", 40))
	}
	lines := api.MaxChunk / len("a GET 1:* UFST\n")
	s.still(0, strings.Repeat("a GET 1:* UFST\n", lines), strings.Repeat(want+"a OK\n", lines))
}
