package mailbag_test

import (
	"fmt"
	"regexp"
	"strconv"
	"strings"
	"testing"
	"unicode/utf8"

	"mailbag/api"
	"mailbag/mailbag"
)

func wantEncode(t *testing.T, name, code string) {
	t.Helper()
	if got, errno := mailbag.Encode(name); got != code || errno != api.OK {
		t.Errorf("P3: Encode(%q) = %q, %d, want %q, OK", name, got, errno, code)
	}
}

func wantDecode(t *testing.T, code, name string) {
	t.Helper()
	if got, errno := mailbag.Decode(code); got != name || errno != api.OK {
		t.Errorf("P4: Decode(%q) = %q, %d, want %q, OK", code, got, errno, name)
	}
}

func refuseEncode(t *testing.T, name string) {
	t.Helper()
	if got, errno := mailbag.Encode(name); got != "" || errno != api.ErrName {
		t.Errorf("P3: Encode(%.40q) = %q, %d, want nothing, ErrName", name, got, errno)
	}
}

func refuseDecode(t *testing.T, code string) {
	t.Helper()
	if got, errno := mailbag.Decode(code); got != "" || errno != api.ErrName {
		t.Errorf("P4: Decode(%.40q) = %q, %d, want nothing, ErrName", code, got, errno)
	}
}

// The document's rule for one rune, said anew: its code, or "" if no name has it.
func codeOf(r rune) string {
	switch {
	case r < 33, r == 127, r == 65533, r >= 0xd800 && r <= 0xdfff, r > 0x10ffff:
		return ""
	case strings.ContainsRune("abcdefghijklmnopqrstuvwxyz0123456789", r):
		return string(r)
	}
	return fmt.Sprintf("=%x=", r)
}

func TestNamesAndCodes(t *testing.T) {
	for _, c := range []struct{ name, code string }{
		{"inbox", "inbox"},
		{"A-1", "=41==2d=1"},
		{"Été", "=c9=t=e9="},
		{"A", "=41="},
		{"0", "0"},
		{"a0z9", "a0z9"},
		{"=", "=3d="},
		{"=41=", "=3d=41=3d="},
		{"====", "=3d==3d==3d==3d="},
		{"epoch", "epoch"},
		{"x.tmp", "x=2e=tmp"},
		{"in/list", "in=2f=list"},
		{"..", "=2e==2e="},
		{"日本", "=65e5==672c="},
		{"e\u0301", "e=301="},
		{"\u00a0\u2028", "=a0==2028="},
		{"\ufeff", "=feff="},
		{"a\U0001f600b", "a=1f600=b"},
		{strings.Repeat("\U0010ffff", api.MaxName), strings.Repeat("=10ffff=", api.MaxName)},
	} {
		wantEncode(t, c.name, c.code)
		wantDecode(t, c.code, c.name)
	}
}

func TestEveryRuneByItself(t *testing.T) {
	t.Parallel()
	for r := rune(0); r <= utf8.MaxRune; r++ {
		// string(r) of a surrogate is "\ufffd", which is refused as well.
		name, code := string(r), codeOf(r)
		if code == "" {
			refuseEncode(t, name)
			refuseEncode(t, "a"+name)
			refuseEncode(t, name+"a")
			refuseDecode(t, fmt.Sprintf("=%x=", r))
		} else {
			wantEncode(t, name, code)
			wantDecode(t, code, name)
		}
	}
}

func TestRunesNextToTheEdges(t *testing.T) {
	for _, c := range []struct{ name, code string }{
		{"!", "=21="}, {"~", "=7e="}, {"\u0080", "=80="},
		{"\ufffc", "=fffc="}, {"\ufffe", "=fffe="}, {"\uffff", "=ffff="},
		{"/", "=2f="}, {":", "=3a="}, {"`", "=60="}, {"{", "=7b="}, {"@", "=40="}, {"Z", "=5a="},
		{"\ud7ff", "=d7ff="}, {"\ue000", "=e000="}, {"\U0010ffff", "=10ffff="},
	} {
		wantEncode(t, c.name, c.code)
		wantDecode(t, c.code, c.name)
	}
	for _, name := range []string{" ", "\x1f", "\x00", "\t", "\n", "\x7f", "\ufffd"} {
		refuseEncode(t, name)
		refuseEncode(t, "in"+name)
		refuseEncode(t, name+"in")
	}
	for _, code := range []string{"=0=", "=1f=", "=20=", "=7f=", "=fffd=", "=d800=", "=dfff=", "=110000="} {
		refuseDecode(t, code)
		refuseDecode(t, "in"+code)
		refuseDecode(t, code+"in")
	}
}

func TestNamesOfEachLength(t *testing.T) {
	for _, r := range []rune{'a', '9', 'A', '=', 'é', '€', '\U0001f600', utf8.MaxRune} {
		for n := range 3 * api.MaxName {
			name, code := strings.Repeat(string(r), n), strings.Repeat(codeOf(r), n)
			if n >= 1 && n <= api.MaxName {
				wantEncode(t, name, code)
				wantDecode(t, code, name)
			} else {
				refuseEncode(t, name)
				refuseDecode(t, code)
			}
		}
	}
	refuseDecode(t, strings.Repeat("=10ffff=", api.MaxName)+"a")
	refuseDecode(t, strings.Repeat("a", api.MaxName)+"=41=")
}

func TestTextsThatAreNoUTF8(t *testing.T) {
	for _, bad := range []string{
		"\x80", "\xbf", "\xc0\x80", "\xc1\x81", "\xc3", "\xe2\x82", "\xed\xa0\x80", "\xed\xbf\xbf",
		"\xf0\x9f\x98", "\xf0\x80\x80\x80", "\xf4\x90\x80\x80", "\xf8\x88\x80\x80\x80", "\xfe", "\xff",
	} {
		refuseEncode(t, bad)
		refuseEncode(t, "a"+bad)
		refuseEncode(t, bad+"a")
		refuseDecode(t, bad)
		refuseDecode(t, "a"+bad)
		refuseDecode(t, "=41="+bad)
	}
}

func TestCodesThatSayARuneOtherwise(t *testing.T) {
	for _, code := range []string{
		"=61=", "=7a=", "=30=", "=39=", "=062=",
		"=041=", "=0041=", "=00000041=", "=4A=", "=C9=", "=2D=", "=fF=",
		"A", "-", "é", "É", "!", "a-b", "A=41=", " ", "a b", "=41= ", " =41=",
		"=+41=", "=-41=", "=- 41=", "=0x41=", "=4_1=", "= 41=", "=41 =", "=4.1=", "=41h=", "=g=", "=G=",
		"=100000041=", "=ffffffff=", "=80000000=", "=7fffffff=", "=-0=", "=10000000000000041=", "=ffffffffffffffffffffffff=",
		"", "=", "==", "===", "====", "=41", "41=", "a=", "=a", "=41==", "==41=", "=41===41=", "=41=42=", "a=41", "=é=",
	} {
		refuseDecode(t, code)
	}
}

var codeShape = regexp.MustCompile(`^([a-z0-9]|=[1-9a-f][0-9a-f]*=)+$`)
var codePart = regexp.MustCompile(`[a-z0-9]|=[0-9a-f]+=`)

// The document's words on codes, followed by other means than the program's.
func nameOf(code string) (string, bool) {
	parts := codePart.FindAllString(code, -1)
	if !codeShape.MatchString(code) || len(parts) > api.MaxName {
		return "", false
	}
	name := ""
	for _, part := range parts {
		r, _ := utf8.DecodeRuneInString(part)
		if len(part) > 1 {
			n, err := strconv.ParseInt(part[1:len(part)-1], 16, 64)
			if err != nil || n > utf8.MaxRune {
				return "", false
			}
			r = rune(n)
		}
		if codeOf(r) != part {
			return "", false
		}
		name += string(r)
	}
	return name, true
}

func TestEveryShortText(t *testing.T) {
	right := 0
	texts := []string{""}
	for range 6 {
		var longer []string
		for _, s := range texts {
			for _, b := range []string{"=", "0", "4", "6", "d", "z", "F", "-"} {
				longer = append(longer, s+b)
			}
		}
		texts = longer
		for _, s := range texts {
			if name, ok := nameOf(s); ok {
				right++
				wantDecode(t, s, name)
				wantEncode(t, name, s)
			} else {
				refuseDecode(t, s)
			}
		}
	}
	if right < 1000 {
		t.Errorf("only %d of the texts were codes", right)
	}
}

func FuzzCodes(f *testing.F) {
	for _, s := range []string{"", "inbox", "=41==2d=1", "=c9=t=e9=", "=61=", "=041=", "=10ffff=", "=fffd=", "Été", "\xff"} {
		f.Add(s)
	}
	f.Fuzz(func(t *testing.T, s string) {
		if name, ok := nameOf(s); ok {
			wantDecode(t, s, name)
		} else {
			refuseDecode(t, s)
		}
		code, errno := mailbag.Encode(s)
		if errno == api.OK {
			wantDecode(t, code, s)
		} else {
			refuseEncode(t, s)
		}
	})
}
