package mailbag_test

import (
	"fmt"
	"math/rand"
	"slices"
	"strings"
	"testing"
	"unsafe"

	"mailbag/api"
	"mailbag/mailbag"
)

const talkToKeep = "a MAKE qqq\nb ADD qqq ads 5\nhello\nc OPEN qqq\nd ADD qqq - 40\n0123456789012345678901234567890123456789\ne PLUS 1:2 f\nf COPY 1 qqq\ng FIND =ell +a\nh MAKE rrr\ni COPY * rrr\nj LIST\nk GET 1:* UFST\nl MINUS 2 f\nm ADD rrr - 3\nxyz\nn SHUT\no REMOVE rrr\n"

// Each chunk is written over as soon as the call is over.
func TestNoChunkIsKept(t *testing.T) {
	want, wantDone, wantFiles := pieces(t, threeFolders()[:4], []string{talkToKeep})
	rng := rand.New(rand.NewSource(71))
	for range 50 {
		s, d := open(t, threeFolders()[:4])
		out, done := "", ""
		inPieces(rng, talkToKeep, func(piece string) {
			chunk, spoil := shaky(piece)
			got, acts, errno := s.Feed(0, chunk)
			spoil()
			if errno != api.OK {
				t.Fatal(errno)
			}
			out += got
			for _, a := range acts {
				done += fmt.Sprintf("%+v\n", a)
			}
			d.do(t, acts)
			wantDisk(t, s, d, s.Files())
		})
		if out != want || done != wantDone || !sameFiles(s.Files(), wantFiles) {
			t.Fatalf("P2: chunks are kept: %q, %s, %q, want %q, %s, %q", out, done, s.Files(), want, wantDone, wantFiles)
		}
	}
}

// The answer and the acts do not hang on the chunk either.
func TestAnswersDoNotHangOnTheChunk(t *testing.T) {
	want, wantDone, _ := pieces(t, nil, []string{talkToKeep})
	s, _ := open(t, nil)
	chunk, spoil := shaky(talkToKeep)
	got, acts, _ := s.Feed(0, chunk)
	spoil()
	done := ""
	for _, a := range acts {
		done += fmt.Sprintf("%+v\n", a)
	}
	if got != want || done != wantDone {
		t.Errorf("P2: the answer hangs on the chunk: %q, %s, want %q, %s", got, done, want, wantDone)
	}
}

func TestNoChunkIsWrittenInto(t *testing.T) {
	bytes := []byte(talkToKeep + "spare")
	s, _ := open(t, nil)
	s.Feed(0, unsafe.String(unsafe.SliceData(bytes), len(talkToKeep)))
	s.Feed(1, unsafe.String(unsafe.SliceData(bytes), len(talkToKeep)))
	if string(bytes) != talkToKeep+"spare" {
		t.Errorf("P2: the chunk was written into: %q", bytes)
	}
}

// What comes out may be written into, and nothing later hangs on it.
func TestWhatFeedGivesIsNew(t *testing.T) {
	rng := rand.New(rand.NewSource(72))
	for range 40 {
		p := newPair(t, threeFolders())
		rough, acts, _ := mailbag.Open(threeFolders())
		spoilActs(acts)
		for range 30 {
			conn, chunk := rng.Intn(3), randomLine(rng)
			want := p.feed(conn, chunk)
			p.d.do(t, want)
			got := slices.Clone(want)
			_, acts, _ := rough.Feed(conn, chunk)
			if !slices.Equal(acts, got) {
				t.Fatalf("P2: what came out was written into, and the acts are %v, want %v", acts, got)
			}
			spoilActs(acts)
			_ = append(acts, api.Act{Kind: -1}, api.Act{Kind: -1})
			spoilFiles(rough.Files())
		}
		wantDisk(t, rough, p.d, p.m.inOrder())
	}
}

func TestServersOfFeedHaveNothingToDoWithOneAnother(t *testing.T) {
	rng := rand.New(rand.NewSource(73))
	files := threeFolders()
	pairs := []*pair{newPair(t, files), newPair(t, files), newPair(t, files)}
	for range 200 {
		pairs[rng.Intn(2)].tell(rng.Intn(3), randomLine(rng))
	}
	pairs[2].tell(0, "a LIST\n")
	untouched, _ := stateOf(files)
	wantDisk(t, pairs[2].s, pairs[2].d, untouched.inOrder())
}

func TestChunksOfAnyLengthEnd(t *testing.T) {
	s := serve(t, nil)
	for _, text := range []string{"a", " ", "\n", "\xff", "a MAKE q\n", "a FIND =", ","} {
		s.refuse(0, strings.Repeat(text, 5000000), api.ErrLong)
		s.refuse(3, strings.Repeat(text, 5000000), api.ErrConn)
	}
	s.still(0, "a LIST\n", "a OK\n")
}
