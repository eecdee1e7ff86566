package mailbag_test

import (
	"fmt"
	"math/rand"
	"strings"
	"testing"

	"mailbag/api"
	"mailbag/mailbag"
)

func TestTags(t *testing.T) {
	s := serve(t, nil)
	for b := range 256 {
		letter := string([]byte{byte(b)})
		isTag := strings.Contains("ABCDEFGHIJKLMNOPQRSTUVWXYZabcdefghijklmnopqrstuvwxyz0123456789", letter)
		for _, tag := range []string{letter, "a" + letter, letter + "7", "aaa" + letter + "aaaa", letter + strings.Repeat("z", 7), strings.Repeat("z", 7) + letter} {
			if letter == "\n" || letter == " " {
				continue
			}
			want := "* BAD\n"
			if isTag {
				want = tag + " OK\n"
			}
			s.still(0, tag+" NOOP\n", want)
		}
	}
	for length := range 82 {
		tag := strings.Repeat("Z", length)
		want := tag
		if length < 1 || length > 8 {
			want = "*"
		}
		s.still(0, tag+"\n", want+" BAD\n")
		if length < 75 && want != "*" {
			s.still(0, tag+" NOOP\n", tag+" OK\n")
		} else if length < 75 {
			s.still(0, tag+" NOOP\n", "* BAD\n")
		}
	}
	for _, line := range []string{"", " ", "  ", " a NOOP", "  a NOOP", "* NOOP", "+", "é", "a\t NOOP", "a\x00", "-", "a- NOOP", "_"} {
		s.still(0, line+"\n", "* BAD\n")
	}
}

func TestBlanks(t *testing.T) {
	for _, line := range []string{"a NOOP", "a MAKE q", "a OPEN in", "a ADD in s 1", "a GET 1 U", "a PLUS 1 s", "a FIND ALL ALL", "a COPY 1 in"} {
		for i := range len(line) + 1 {
			s := serve(t, f("in/list", withSum("1 2\n1 1 -\n"), "in/1.", "x"))
			s.still(0, "o OPEN in\n", "* EPOCH 1\n* NEXT 2\n* COUNT 1\no OK\n")
			switch {
			case i == 0:
				s.still(0, " "+line+"\n", "* BAD\n")
			case i == len(line) || line[i] == ' ' || line[i-1] == ' ':
				s.still(0, line[:i]+" "+line[i:]+"\n", "a BAD\n")
			}
		}
	}
}

// Lines of MaxLine bytes and more, in all pieces of two.
func TestLongLines(t *testing.T) {
	s := serve(t, f("in/list", withSum("1 2\n1 1 -\n"), "in/1.", "x"))
	s.still(0, "o OPEN in\n", "* EPOCH 1\n* NEXT 2\n* COUNT 1\no OK\n")
	for length := 70; length <= 90; length++ {
		line := "a FIND =" + strings.Repeat("y", length-8)
		for i := range length + 1 {
			first, second := "", "* FIND\na OK\n"
			switch {
			case length > api.MaxLine && i > api.MaxLine:
				first, second = "* BAD\n", ""
			case length > api.MaxLine:
				second = "* BAD\n"
			}
			s.still(0, line[:i], first, line[i:]+"\n", second, "b NOOP\n", "b OK\n")
		}
	}
	// It is answered once, as soon as it is too long, and all behind it is dropped.
	s.still(0, strings.Repeat("x", 80), "", "x", "* BAD\n")
	for range 100 {
		s.still(0, strings.Repeat("x NOOP", 30), "")
	}
	s.still(0, "\n", "", "\n", "* BAD\n", strings.Repeat(" ", 81)+"\n"+strings.Repeat(" ", 81)+"\n\n", "* BAD\n* BAD\n* BAD\n")
	// Bytes, not runes.
	s.still(0, strings.Repeat("é", 40), "", "é", "* BAD\n", "\n", "", strings.Repeat("é", 40)+"\n", "* BAD\n")
	// A line begins anew behind a text.
	s.still(0, "a ADD q - 40\n"+strings.Repeat("x", 40)+"\n", "+\na NO\n", "b FIND ="+strings.Repeat("y", 72)+"\n", "* FIND\nb OK\n")
	s.still(0, "a ADD q - 40\n"+strings.Repeat("x", 41), "+\na BAD\n", strings.Repeat("x", 100)+"\nb FIND ="+strings.Repeat("y", 72)+"\n", "* FIND\nb OK\n")
}

func TestSizes(t *testing.T) {
	for _, size := range []string{"", "-", "41", "99", "100", "00", "01", "-1", "+1", "1.", "1 ", "x", "0x1", "4 0", "999999999999999999999", "٣"} {
		serve(t, f("in/list", empty)).still(0, "a ADD in - "+size+"\n", "a BAD\n", "b NOOP\n", "b OK\n")
	}
	for size := range api.MaxText + 1 {
		s := serve(t, f("in/list", empty))
		text := strings.Repeat("\n", size)
		s.still(0, fmt.Sprintf("a ADD in - %d\n", size), "+\n", text, "")
		s.on(0, "\n", "a OK\n")
		s.files("in/1.", text, "in/list", withSum("1 2\n1 1 -\n"))
	}
}

func TestFlagsOfAdd(t *testing.T) {
	for _, word := range wordsOf("adfs-", 4) {
		s := serve(t, f("in/list", empty))
		right := word == "-"
		for _, flags := range everyFlags {
			right = right || word == flags && word != ""
		}
		if !right {
			s.still(0, "a ADD in "+word+" 1\n", "a BAD\n")
			continue
		}
		s.on(0, "a ADD in "+word+" 1\nx\n", "+\na OK\n")
		s.files("in/1."+strings.Trim(word, "-"), "x", "in/list", withSum("1 2\n1 1 "+word+"\n"))
	}
}

// Without a folder opened, and with one, each word with each number of parts.
func TestWordsAndParts(t *testing.T) {
	right := map[string]string{
		"NOOP": "", "LIST": "", "MAKE": " q", "REMOVE": " q", "OPEN": " in", "LOOK": " in", "SHUT": "", "ADD": " in - 0",
		"GET": " 1 U", "PLUS": " 1 s", "MINUS": " 1 s", "FIND": " ALL", "COPY": " 1 in", "SWEEP": "", "BYE": "",
	}
	wants := "SHUT GET PLUS MINUS FIND COPY SWEEP"
	for word, parts := range right {
		for _, opened := range []bool{false, true} {
			for _, line := range []string{word + parts, strings.ToLower(word) + parts, word + "S" + parts, word[1:] + parts, word + parts + " ALL", word + strings.TrimSuffix(parts, parts[max(0, strings.LastIndex(parts, " ")):])} {
				s := serve(t, f("in/list", withSum("1 2\n1 1 -\n"), "in/1.", "x"))
				if opened {
					s.still(0, "o OPEN in\n", "* EPOCH 1\n* NEXT 2\n* COUNT 1\no OK\n")
				}
				isRight := line == word+parts || word == "FIND" && line == "FIND ALL ALL"
				isRight = isRight && (opened || !strings.Contains(wants, word))
				got, _, _ := s.s.Feed(0, "a "+line+"\n")
				if bad := got == "a BAD\n"; bad == isRight {
					t.Errorf("P10: %q, a folder opened: %v: %q", line, opened, got)
				}
			}
		}
	}
}

// Lines of all words and many parts, right and wrong, against the model.
func TestEveryLineOfPieces(t *testing.T) {
	t.Parallel()
	words := []string{"NOOP", "LIST", "MAKE", "REMOVE", "OPEN", "LOOK", "SHUT", "ADD", "GET", "PLUS", "MINUS", "FIND", "COPY", "SWEEP", "noop", "OK", "*", "BYEBYE"}
	parts := []string{"", "in", "a", "É", "\xff", "q", "-", "s", "ad", "da", "aa", "adfs", "1", "0", "00", "01", "2", "7", "40", "41", "999", "1000", "*", "1:2", "*:1", "1,2", "1,", ":1", "U", "UFST", "TT", "X", "ALL", "all", "+a", "+", "-d", "--", ">0", ">999", ">1000", "=a", "=", "=in"}
	var lines []string
	for _, word := range words {
		lines = append(lines, "a "+word)
		for _, first := range parts {
			lines = append(lines, "a "+word+" "+first)
			for _, second := range parts {
				lines = append(lines, "a "+word+" "+first+" "+second)
				if word == "ADD" || word == "FIND" {
					for _, third := range parts {
						lines = append(lines, "a "+word+" "+first+" "+second+" "+third)
					}
				}
			}
		}
	}
	rng := rand.New(rand.NewSource(51))
	rng.Shuffle(len(lines), func(i, j int) { lines[i], lines[j] = lines[j], lines[i] })
	var p *pair
	for i, line := range lines {
		if i%100 == 0 {
			p = newPair(t, threeFolders())
			if i%300 > 0 {
				p.tell(0, "o OPEN in\n")
			}
		}
		p.d.do(t, p.feed(0, line+"\n"))
		if p.m.talkers[0].adding != nil {
			p.d.do(t, p.feed(0, strings.Repeat("\n", numbers(p.m.talkers[0].adding[3:])[0]+1)))
		}
	}
}

// pieces: answers and acts of all chunks, one behind the other.
func pieces(t *testing.T, files []api.File, chunks []string) (string, string, []api.File) {
	t.Helper()
	s, _ := open(t, files)
	out, done := "", ""
	for _, chunk := range chunks {
		got, acts, errno := s.Feed(0, chunk)
		if errno != api.OK && errno != api.ErrConn {
			t.Fatalf("P10: Feed(0, %q) is %d", chunk, errno)
		}
		out += got
		for _, a := range acts {
			done += fmt.Sprintf("%+v\n", a)
		}
	}
	return out, done, s.Files()
}

const talkOfAllKinds = "a MAKE q\nb ADD q s 5\nhe\nlo\nc OPEN q\nd PLUS * f\ne GET 1 FT\nf ADD q - 0\nxx\ng COPY 1 in\n\nh ADD q d 2\n\n\n\ni SWEEP\n" +
	"j FIND =zzzzzzzzzzzzzzzzzzzzzzzzzzzzzzzzzzzzzzzzzzzzzzzzzzzzzzzzzzzzzzzzzzzzzzzz\nk FIND =zzzzzzzzzzzzzzzzzzzzzzzzzzzzzzzzzzzzzzzzzzzzzzzzzzzzzzzzzzzzzzzzzzzzzzzzz yyyyyy\nl SHUT\nm REMOVE q\nn BYE\no NOOP\n"

func TestPiecesMakeNoDifference(t *testing.T) {
	want, wantDone, wantFiles := pieces(t, threeFolders(), []string{talkOfAllKinds})
	if !strings.HasSuffix(want, "* FIND\nj OK\n* BAD\nl OK\nm OK\n* BYE\nn OK\n") {
		t.Fatalf("P10: %q", want)
	}
	check := func(chunks []string) {
		t.Helper()
		got, done, files := pieces(t, threeFolders(), chunks)
		if got != want || done != wantDone || !sameFiles(files, wantFiles) {
			t.Fatalf("P10: in the pieces %q: %q, %s, %q, want %q, %s, %q", chunks, got, done, files, want, wantDone, wantFiles)
		}
	}
	check(strings.Split(talkOfAllKinds, ""))
	for i := range len(talkOfAllKinds) {
		check([]string{talkOfAllKinds[:i], talkOfAllKinds[i:]})
		check([]string{talkOfAllKinds[:i], "", talkOfAllKinds[i : i+1], "", talkOfAllKinds[i+1:]})
	}
	rng := rand.New(rand.NewSource(52))
	for range 500 {
		var chunks []string
		inPieces(rng, talkOfAllKinds, func(piece string) { chunks = append(chunks, piece) })
		check(chunks)
	}
}

// A line is answered with the byte that ends it, not later.
func TestAnswersDoNotWait(t *testing.T) {
	s, _ := open(t, threeFolders())
	for i := range len(talkOfAllKinds) {
		got, _, errno := s.Feed(0, talkOfAllKinds[i:i+1])
		if errno != api.OK {
			break
		}
		isEnd := talkOfAllKinds[i] == '\n'
		if !isEnd && got != "" && !strings.HasSuffix(got, " BAD\n") {
			t.Errorf("P10: the byte %d, %q, is answered by %q", i, talkOfAllKinds[:i+1], got)
		}
		if strings.HasSuffix(talkOfAllKinds[:i+1], "NOOP\n") && got == "" {
			t.Errorf("P10: %q is not answered", talkOfAllKinds[:i+1])
		}
	}
	fresh, _, _ := mailbag.Open(nil)
	for _, c := range []struct{ chunk, want string }{{"a NOOP", ""}, {"\n", "a OK\n"}, {"b ADD q - 1\n", "+\n"}, {"x", ""}, {"y", "b BAD\n"}, {"\n", ""}, {strings.Repeat("z", 80), ""}, {"z", "* BAD\n"}, {"\n", ""}} {
		if got, _, _ := fresh.Feed(2, c.chunk); got != c.want {
			t.Errorf("P10: Feed(2, %q) = %q, want %q", c.chunk, got, c.want)
		}
	}
}
