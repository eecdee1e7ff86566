package mailbag_test

import (
	"math"
	"regexp"
	"slices"
	"strconv"
	"strings"
	"testing"

	"mailbag/api"
	"mailbag/mailbag"
)

var everyFlags = []string{"", "a", "d", "f", "s", "ad", "af", "as", "df", "ds", "fs", "adf", "ads", "afs", "dfs", "adfs"}

func sameList(a, b api.List) bool {
	return a.Epoch == b.Epoch && a.Next == b.Next && slices.Equal(a.Entries, b.Entries)
}

func wantWrite(t *testing.T, l api.List, text string) {
	t.Helper()
	if got, errno := mailbag.Write(l); got != text || errno != api.OK {
		t.Errorf("P5: Write(%v) = %q, %d, want %q, OK", l, got, errno, text)
	}
}

func wantRead(t *testing.T, text string, l api.List) {
	t.Helper()
	if got, errno := mailbag.Read(text); !sameList(got, l) || errno != api.OK {
		t.Errorf("P6: Read(%q) = %v, %d, want %v, OK", text, got, errno, l)
	}
}

func refuseWrite(t *testing.T, l api.List) {
	t.Helper()
	if got, errno := mailbag.Write(l); got != "" || errno != api.ErrList {
		few := l.Entries[:min(len(l.Entries), 10)]
		t.Errorf("P5: Write of %d, %d, %d entries (%.40v ..) = %.200q, %d, want nothing, ErrList", l.Epoch, l.Next, len(l.Entries), few, got, errno)
	}
}

func refuseRead(t *testing.T, text string, want api.Errno) {
	t.Helper()
	if got, errno := mailbag.Read(text); got.Epoch != 0 || got.Next != 0 || got.Entries != nil || errno != want {
		t.Errorf("P6: Read(%.120q) = %v, %d, want nothing, %d", text, got, errno, want)
	}
}

// wantBoth: if the list is right these are its lines, else neither may pass.
func wantBoth(t *testing.T, l api.List, lines string, right bool) {
	t.Helper()
	if right {
		wantWrite(t, l, withSum(lines))
		wantRead(t, withSum(lines), l)
	} else {
		refuseWrite(t, l)
		refuseRead(t, withSum(lines), api.ErrList)
	}
}

func sumOf(lines string) int {
	sum := 7
	for _, b := range []byte(lines) {
		sum = (sum*31 + int(b)) % 99991
	}
	return sum
}

func withSum(lines string) string {
	return lines + strconv.Itoa(sumOf(lines)) + "\n"
}

func fullList() (api.List, string) {
	l := api.List{Epoch: api.MaxEpoch, Next: api.MaxUid + 1}
	lines := "99 100\n"
	for i := range api.MaxMessages {
		l.Entries = append(l.Entries, api.Entry{Key: 992 + i, Uid: 92 + i, Flags: "adfs"})
		lines += strconv.Itoa(992+i) + " " + strconv.Itoa(92+i) + " adfs\n"
	}
	return l, lines
}

func one(e api.Entry) api.List {
	return api.List{Epoch: 1, Next: api.MaxUid + 1, Entries: []api.Entry{e}}
}

func TestListsAndTexts(t *testing.T) {
	// These sums were worked out apart from any Go code.
	for _, c := range []struct {
		l    api.List
		text string
	}{
		{api.List{Epoch: 1, Next: 1}, "1 1\n57398\n"},
		{api.List{Epoch: 99, Next: 100}, "99 100\n67739\n"},
		{api.List{Epoch: 3, Next: 7, Entries: []api.Entry{{Key: 2, Uid: 5, Flags: "ds"}}}, "3 7\n2 5 ds\n5085\n"},
		{api.List{Epoch: 1, Next: 3, Entries: []api.Entry{{Key: 9, Uid: 1}, {Key: 1, Uid: 2, Flags: "a"}}}, "1 3\n9 1 -\n1 2 a\n46607\n"},
		{api.List{Epoch: 12, Next: 31, Entries: []api.Entry{{Key: 999, Uid: 4, Flags: "f"}, {Key: 10, Uid: 29, Flags: "as"}, {Key: 1, Uid: 30}}}, "12 31\n999 4 f\n10 29 as\n1 30 -\n45269\n"},
	} {
		wantWrite(t, c.l, c.text)
		wantRead(t, c.text, c.l)
	}
	full, lines := fullList()
	wantWrite(t, full, withSum(lines))
	wantRead(t, withSum(lines), full)
}

func TestNumbersOfLists(t *testing.T) {
	far := []int{math.MinInt, math.MinInt32, -1, 0, 1, 2, 9, 10, 98, 99, 100, 101, 998, 999, 1000, math.MaxInt32, math.MaxInt}
	for _, n := range far {
		s := strconv.Itoa(n)
		wantBoth(t, api.List{Epoch: n, Next: 1}, s+" 1\n", n >= 1 && n <= 99)
		wantBoth(t, api.List{Epoch: 1, Next: n}, "1 "+s+"\n", n >= 1 && n <= 100)
		wantBoth(t, one(api.Entry{Key: n, Uid: 1}), "1 100\n"+s+" 1 -\n", n >= 1 && n <= 999)
		wantBoth(t, one(api.Entry{Key: 1, Uid: n}), "1 100\n1 "+s+" -\n", n >= 1 && n <= 99)
	}
}

func TestEveryPairOfUids(t *testing.T) {
	for next := 1; next <= 6; next++ {
		for first := 0; first <= 7; first++ {
			for second := 0; second <= 7; second++ {
				l := api.List{Epoch: 1, Next: next, Entries: []api.Entry{{Key: 5, Uid: first}, {Key: 4, Uid: second}}}
				lines := "1 " + strconv.Itoa(next) + "\n5 " + strconv.Itoa(first) + " -\n4 " + strconv.Itoa(second) + " -\n"
				wantBoth(t, l, lines, 1 <= first && first < second && second < next)
			}
		}
	}
}

func TestKeysDiffer(t *testing.T) {
	for n := 2; n <= api.MaxMessages; n++ {
		for i := range n {
			for j := range i {
				l := api.List{Epoch: 1, Next: 100}
				lines := "1 100\n"
				for k := range n {
					key := 50 - k
					if k == i {
						key = 50 - j
					}
					l.Entries = append(l.Entries, api.Entry{Key: key, Uid: k + 1})
					lines += strconv.Itoa(key) + " " + strconv.Itoa(k+1) + " -\n"
				}
				wantBoth(t, l, lines, false)
			}
		}
	}
}

func TestHowManyMessages(t *testing.T) {
	for n := range 3 * api.MaxMessages {
		l := api.List{Epoch: 1, Next: 100}
		lines := "1 100\n"
		for i := range n {
			l.Entries = append(l.Entries, api.Entry{Key: i + 1, Uid: i + 1})
			lines += strconv.Itoa(i+1) + " " + strconv.Itoa(i+1) + " -\n"
		}
		wantBoth(t, l, lines, n <= api.MaxMessages)
	}
}

func TestEveryFlags(t *testing.T) {
	texts := []string{""}
	for i := 0; i < len(texts); i++ {
		s := texts[i]
		if slices.Contains(everyFlags, s) {
			told := s
			if s == "" {
				told = "-"
			}
			text := withSum("1 100\n1 1 " + told + "\n")
			wantWrite(t, one(api.Entry{Key: 1, Uid: 1, Flags: s}), text)
			wantRead(t, text, one(api.Entry{Key: 1, Uid: 1, Flags: s}))
		} else {
			refuseWrite(t, one(api.Entry{Key: 1, Uid: 1, Flags: s}))
		}
		if s != "-" && (s == "" || !slices.Contains(everyFlags, s)) {
			refuseRead(t, withSum("1 100\n1 1 "+s+"\n"), api.ErrList)
		}
		if len(s) < 5 {
			for _, b := range []string{"a", "d", "f", "s", "-", "A"} {
				texts = append(texts, s+b)
			}
		}
	}
	for _, s := range []string{" ", "a ", " a", "a\n", "\n", "\x00", "b", "ſ", "a\xff", "adfsa"} {
		refuseWrite(t, one(api.Entry{Key: 1, Uid: 1, Flags: s}))
		refuseRead(t, withSum("1 100\n1 1 "+s+"\n"), api.ErrList)
	}
}

func TestSums(t *testing.T) {
	least := math.MaxInt
	for epoch := 1; epoch <= api.MaxEpoch; epoch++ {
		for next := 1; next <= api.MaxUid+1; next++ {
			l := api.List{Epoch: epoch, Next: next}
			lines := strconv.Itoa(epoch) + " " + strconv.Itoa(next) + "\n"
			sum := sumOf(lines)
			least = min(least, sum)
			wantWrite(t, l, lines+strconv.Itoa(sum)+"\n")
			wantRead(t, lines+strconv.Itoa(sum)+"\n", l)
			for _, wrong := range []string{strconv.Itoa(sum + 1), strconv.Itoa(sum - 1), strconv.Itoa(sum + 99991), strconv.Itoa(sum - 99991), "0" + strconv.Itoa(sum), "+" + strconv.Itoa(sum), strconv.Itoa(sum) + " ", " " + strconv.Itoa(sum), ""} {
				refuseRead(t, lines+wrong+"\n", api.ErrList)
			}
		}
	}
	if least >= 1000 {
		t.Errorf("no short sum was among them: the least is %d", least)
	}
}

func TestTextsThatAreNoList(t *testing.T) {
	for _, s := range []string{
		"", "\n", "\n\n", "\n\n\n", " ", "7\n", "57398\n", "1 1", "1 1\n", "1 1\n57398", "1 1\n57398\n\n", "1 1\n57398\n ", "\n1 1\n57398\n",
		"1 1\n57398\n57398\n", "1 1\n57398\n1 1\n57398\n", "1 1\r\n57398\r\n", "1 1\n57398\x00\n", "?",
	} {
		refuseRead(t, s, api.ErrList)
	}
	for _, lines := range []string{
		"", "\n", " \n", "1\n", "1 \n", " 1\n", "1 1 1\n", "1  1\n", " 1 1\n", "1 1 \n", "1\t1\n", "1 1\n\n", "\n1 1\n", "1,1\n",
		"01 1\n", "1 01\n", "+1 1\n", "1 +1\n", "-1 1\n", "0x1 1\n", "1.0 1\n", "1_0 1\n", "1 1_0\n", "١ 1\n", "a 1\n", "1 a\n", "1 1", "1 10\n1 1 -",
		"18446744073709551617 1\n", "1 18446744073709551617\n", "1 10\n18446744073709551617 1 -\n", "1 10\n1 18446744073709551617 -\n",
		"1 10\n1 1\n", "1 10\n1 1 \n", "1 10\n1 1  -\n", "1 10\n1  1 -\n", "1 10\n 1 1 -\n", "1 10\n1 1 - \n", "1 10\n1 1 - -\n", "1 10\n1 1 --\n",
		"1 10\n01 1 -\n", "1 10\n1 01 -\n", "1 10\n+1 1 -\n", "1 10\n1 +1 -\n", "1 10\n1 1 -\n\n", "1 10\n\n1 1 -\n", "1 10\n1 1 -\n1 10\n", "1 1 -\n1 10\n",
	} {
		refuseRead(t, withSum(lines), api.ErrList)
	}
}

func TestHowLongATextIs(t *testing.T) {
	_, lines := fullList()
	text := withSum(lines)
	for _, fill := range []string{"\n", "0", " ", "9", "\x00"} {
		refuseRead(t, strings.Repeat(fill, api.MaxData), api.ErrList)
		refuseRead(t, strings.Repeat(fill, api.MaxData+1), api.ErrLong)
		refuseRead(t, text+strings.Repeat(fill, api.MaxData-len(text)), api.ErrList)
		refuseRead(t, text+strings.Repeat(fill, api.MaxData+1-len(text)), api.ErrLong)
		refuseRead(t, strings.Repeat(fill, 1000000), api.ErrLong)
	}
}

var numberShape = `(0|[1-9][0-9]*)`
var headShape = regexp.MustCompile(`^` + numberShape + ` ` + numberShape + `$`)
var entryShape = regexp.MustCompile(`^` + numberShape + ` ` + numberShape + ` (-|a?d?f?s?)$`)

func numbers(parts []string) []int {
	var out []int
	for _, p := range parts {
		n, err := strconv.Atoi(p)
		if err != nil {
			n = -1
		}
		out = append(out, n)
	}
	return out
}

// The document's words on the lines of lists (the sum left out), followed by other means than the program's.
func listOf(lines string) (api.List, bool) {
	body, ended := strings.CutSuffix(lines, "\n")
	rows := strings.Split(body, "\n")
	head := headShape.FindStringSubmatch(rows[0])
	if !ended || head == nil || len(rows)-1 > 8 {
		return api.List{}, false
	}
	n := numbers(head[1:])
	l := api.List{Epoch: n[0], Next: n[1]}
	keys := map[int]int{}
	last := 0
	for _, row := range rows[1:] {
		m := entryShape.FindStringSubmatch(row)
		if m == nil || m[3] == "" {
			return api.List{}, false
		}
		n := numbers(m[1:3])
		keys[n[0]]++
		if n[0] < 1 || n[0] > 999 || keys[n[0]] > 1 || n[1] <= last || n[1] > 99 || n[1] >= l.Next {
			return api.List{}, false
		}
		last = n[1]
		l.Entries = append(l.Entries, api.Entry{Key: n[0], Uid: n[1], Flags: strings.Trim(m[3], "-")})
	}
	return l, l.Epoch >= 1 && l.Epoch <= 99 && l.Next >= 1 && l.Next <= 100
}

func TestEveryByteChanged(t *testing.T) {
	_, full := fullList()
	right := 0
	for _, lines := range []string{"1 1\n", "10 20\n", "1 3\n9 1 -\n1 2 a\n", "2 12\n10 9 ds\n1 10 f\n100 11 -\n", full} {
		text := withSum(lines)
		for i := range len(text) {
			refuseRead(t, text[:i], api.ErrList)
			refuseRead(t, text[:i]+text[i+1:], api.ErrList)
			for b := range 256 {
				if byte(b) != text[i] {
					refuseRead(t, text[:i]+string([]byte{byte(b)})+text[i+1:], api.ErrList)
				}
			}
		}
		for i := range len(lines) {
			for b := range 256 {
				for _, changed := range []string{lines[:i] + string([]byte{byte(b)}) + lines[i+1:], lines[:i] + string([]byte{byte(b)}) + lines[i:], lines[:i] + lines[i+1:]} {
					if l, ok := listOf(changed); ok {
						right++
						wantRead(t, withSum(changed), l)
						wantWrite(t, l, withSum(changed))
					} else {
						refuseRead(t, withSum(changed), api.ErrList)
					}
				}
			}
		}
	}
	if right < 1000 {
		t.Errorf("only %d of the texts were of right lists", right)
	}
}

func FuzzLists(f *testing.F) {
	_, full := fullList()
	for _, lines := range []string{"", "1 1\n", "1 3\n9 1 -\n1 2 a\n", "01 1\n", "1 2\n1 1 \n", "1 1\n1 1 -\n", full} {
		f.Add(lines)
	}
	f.Fuzz(func(t *testing.T, lines string) {
		text := withSum(lines)
		l, ok := listOf(lines)
		switch {
		case len(text) > api.MaxData:
			refuseRead(t, text, api.ErrLong)
		case !ok:
			refuseRead(t, text, api.ErrList)
		default:
			wantRead(t, text, l)
			wantWrite(t, l, text)
		}
	})
}
