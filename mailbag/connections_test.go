package mailbag_test

import (
	"fmt"
	"strings"
	"testing"

	"mailbag/api"
)

// turn: a connection says something, and is answered.
type turn struct {
	conn       int
	said, want string
}

// turns: one behind the other; what is to be done is done.
func (s *server) turns(turns ...turn) {
	s.t.Helper()
	for i, turn := range turns {
		got, acts, errno := s.s.Feed(turn.conn, turn.said)
		if got != turn.want || errno != api.OK {
			s.t.Fatalf("P10: turn %d: Feed(%d, %q) = %q, %d, want %q, OK", i, turn.conn, turn.said, got, errno, turn.want)
		}
		s.d.do(s.t, acts)
		wantDisk(s.t, s.s, s.d, s.s.Files())
	}
}

// Two folders whose messages have the same UIDs and keys; the flags and the texts are not the same.
func twins() []api.File {
	return f("in/list", withSum("1 4\n1 1 -\n2 2 s\n3 3 -\n"), "in/1.", "i1", "in/2.s", "i2", "in/3.", "i3",
		"out/list", withSum("2 4\n1 1 f\n2 2 -\n3 3 a\n"), "out/1.f", "o1", "out/2.", "o2", "out/3.a", "o3")
}

const (
	openIn  = "* EPOCH 1\n* NEXT 4\n* COUNT 3\no OK\n"
	openOut = "* EPOCH 2\n* NEXT 4\n* COUNT 3\no OK\n"
)

func TestFlagsThatOthersChange(t *testing.T) {
	s := serve(t, twins())
	s.turns(
		turn{0, "o OPEN in\n", openIn}, turn{1, "o OPEN in\n", openIn}, turn{2, "o LOOK in\n", openIn},
		// Each is told once, whatever its next line is.
		turn{0, "a PLUS 1,3 d\n", "* 1 FLAGS d\n* 3 FLAGS d\na OK\n"}, turn{0, "b NOOP\n", "b OK\n"},
		turn{1, "a FIND +d\n", "* FIND 1 3\n* 1 FLAGS d\n* 3 FLAGS d\na OK\n"}, turn{1, "b NOOP\n", "b OK\n"},
		turn{2, "a REMOVE in\n", "* 1 FLAGS d\n* 3 FLAGS d\na NO\n"}, turn{2, "b NOOP\n", "b OK\n"},
		// What two of them change is told to the third at once.
		turn{0, "c MINUS 3 d\n", "* 3 FLAGS -\nc OK\n"}, turn{1, "c PLUS 2 f\n", "* 2 FLAGS fs\n* 3 FLAGS -\nc OK\n"}, turn{2, "c LIST\n", "* FOLDER in\n* FOLDER out\n* 2 FLAGS fs\n* 3 FLAGS -\nc OK\n"},
		turn{0, "d NOOP\n", "* 2 FLAGS fs\nd OK\n"},
		// Flags that come back ahead of the next line are not told.
		turn{0, "e PLUS 1 a\n", "* 1 FLAGS ad\ne OK\n"}, turn{0, "f MINUS 1 a\n", "* 1 FLAGS d\nf OK\n"}, turn{1, "d NOOP\n", "d OK\n"},
		turn{0, "g PLUS 1 a\n", "* 1 FLAGS ad\ng OK\n"}, turn{2, "d MAKE in\n", "* 1 FLAGS ad\nd NO\n"}, turn{0, "h MINUS 1 a\n", "* 1 FLAGS d\nh OK\n"}, turn{1, "e NOOP\n", "e OK\n"}, turn{2, "e NOOP\n", "* 1 FLAGS d\ne OK\n"},
		// A change that undoes another's is told to none but those who were told of that.
		turn{1, "f MINUS 1:* dfs\n", "* 1 FLAGS -\n* 2 FLAGS -\nf OK\n"}, turn{0, "i PLUS 1:* d\n", "* 2 FLAGS d\n* 3 FLAGS d\ni OK\n"}, turn{2, "f NOOP\n", "* 2 FLAGS d\n* 3 FLAGS d\nf OK\n"}, turn{1, "g NOOP\n", "* 1 FLAGS d\n* 2 FLAGS d\n* 3 FLAGS d\ng OK\n"},
	)
}

func TestGetTellsNoFlags(t *testing.T) {
	s := serve(t, twins())
	s.turns(
		turn{0, "o OPEN in\n", openIn}, turn{1, "o LOOK in\n", openIn},
		turn{0, "a PLUS 2 a\n", "* 2 FLAGS as\na OK\n"},
		turn{1, "a GET 2 F\n", "* 2 GET F as\n* 2 FLAGS as\na OK\n"}, turn{1, "b GET 2 F\n", "* 2 GET F as\nb OK\n"},
		// OPEN tells all of them, though it names none.
		turn{0, "b PLUS 2 d\n", "* 2 FLAGS ads\nb OK\n"}, turn{1, "o OPEN in\n", openIn}, turn{1, "c NOOP\n", "c OK\n"}, turn{1, "d GET 2 F\n", "* 2 GET F ads\nd OK\n"},
	)
}

func TestMessagesThatOthersBring(t *testing.T) {
	s := serve(t, twins())
	s.turns(turn{0, "o OPEN in\n", openIn}, turn{1, "o LOOK in\n", openIn}, turn{2, "o OPEN out\n", openOut})
	deliver(t, s.s, s.d, "in", "i4", 4)
	s.turns(
		// What the view does not have is not meant, and * is its last.
		turn{0, "a GET 1:* U\n", "* 1 GET U 1\n* 2 GET U 2\n* 3 GET U 3\n* COUNT 4\na OK\n"}, turn{0, "b GET 1:* U\n", "* 1 GET U 1\n* 2 GET U 2\n* 3 GET U 3\n* 4 GET U 4\nb OK\n"},
		turn{1, "a GET 4 U\n", "* COUNT 4\na NO\n"}, turn{1, "b GET 4 U\n", "* 4 GET U 4\nb OK\n"},
		// Several come at once, in the order of their UIDs, and with the flags that they have by now.
		turn{2, "a ADD in s 2\ni5\n", "+\na OK\n"}, turn{2, "b COPY 1,3 in\n", "b OK\n"}, turn{0, "c FIND ALL\n", "* FIND 1 2 3 4\n* COUNT 7\nc OK\n"},
		turn{0, "d PLUS 5:6 d\n", "* 5 FLAGS ds\n* 6 FLAGS df\nd OK\n"}, turn{1, "c NOOP\n", "* COUNT 7\nc OK\n"}, turn{1, "d GET 4:* UFT\n", "* 4 GET U 4 F - T {2}\ni4\n* 5 GET U 5 F ds T {2}\ni5\n* 6 GET U 6 F df T {2}\no1\n* 7 GET U 7 F a T {2}\no3\nd OK\n"},
		turn{0, "e MINUS 5 d\n", "* 5 FLAGS s\ne OK\n"}, turn{1, "e FIND ALL\n", "* FIND 1 2 3 4 5 6 7\n* 5 FLAGS s\ne OK\n"},
		// News of flags come behind that of messages.
		turn{2, "c COPY 2 in\n", "c OK\n"}, turn{0, "f PLUS 1 a\n", "* COUNT 8\n* 1 FLAGS a\nf OK\n"}, turn{1, "f ADD q - 0\n\n", "+\n* COUNT 8\n* 1 FLAGS a\nf NO\n"},
		// None of it is told in another folder.
		turn{2, "d NOOP\n", "d OK\n"}, turn{2, "e GET 1:* UFT\n", "* 1 GET U 1 F f T {2}\no1\n* 2 GET U 2 F - T {2}\no2\n* 3 GET U 3 F a T {2}\no3\ne OK\n"},
		turn{2, "f ADD in - 0\n\n", "+\nf NO\n"}, turn{2, "g COPY 1 in\n", "g NO\n"}, turn{0, "g NOOP\n", "g OK\n"},
	)
}

func TestMessagesThatOthersSweep(t *testing.T) {
	s := serve(t, twins())
	s.turns(
		turn{0, "o OPEN in\n", openIn}, turn{1, "o OPEN in\n", openIn}, turn{2, "o LOOK in\n", openIn},
		turn{0, "a PLUS 1,3 d\nb SWEEP\n", "* 1 FLAGS d\n* 3 FLAGS d\na OK\n* 1 GONE\n* 2 GONE\nb OK\n"},
		// They keep their places, but are neither told, found, changed nor copied.
		turn{1, "a GET 1:* UF\n", "* 2 GET U 2 F s\na OK\n"}, turn{1, "b FIND ALL\n", "* FIND 2\nb OK\n"}, turn{1, "c GET * U\n", "c OK\n"}, turn{1, "d GET 1,3 UFST\n", "d OK\n"}, turn{1, "e PLUS 1:3 f\n", "* 2 FLAGS fs\ne OK\n"}, turn{1, "f MINUS 3 f\n", "f OK\n"}, turn{1, "g GET 4 U\n", "g NO\n"},
		turn{0, "c GET 1 UF\n", "* 1 GET U 2 F fs\n* 1 FLAGS fs\nc OK\n"}, turn{0, "d ADD in - 2\ni4\n", "+\n* COUNT 2\nd OK\n"},
		// New ones come behind those that are gone.
		turn{1, "h GET 4 U\n", "* COUNT 4\nh NO\n"}, turn{1, "i GET 3:* U\n", "* 4 GET U 4\ni OK\n"}, turn{1, "j FIND ALL\n", "* FIND 2 4\nj OK\n"},
		// Places fall one by one.
		turn{1, "k COPY 1:3 out\n", "* 1 GONE\n* 2 GONE\nk OK\n"}, turn{1, "l GET 1:* U\n", "* 1 GET U 2\n* 2 GET U 4\nl OK\n"},
		turn{2, "a SWEEP\n", "* 1 GONE\n* 2 GONE\n* COUNT 2\n* 1 FLAGS fs\na NO\n"}, turn{2, "b GET 1:* UF\n", "* 1 GET U 2 F fs\n* 2 GET U 4 F -\nb OK\n"},
		turn{2, "o OPEN out\nc GET * UFT\n", "* EPOCH 2\n* NEXT 5\n* COUNT 4\no OK\n* 4 GET U 4 F fs T {2}\ni2\nc OK\n"},
	)
}

// What comes and goes between two lines of a connection is not told to it.
func TestMessagesThatNobodyWasTold(t *testing.T) {
	s := serve(t, twins())
	s.turns(
		turn{0, "o OPEN in\n", openIn}, turn{1, "o OPEN in\n", openIn},
		turn{1, "a ADD in d 1\nx\nb ADD in s 1\ny\nc SWEEP\n", "+\n* COUNT 4\na OK\n+\n* COUNT 5\nb OK\n* 4 GONE\nc OK\n"},
		turn{0, "a GET 1:* U\n", "* 1 GET U 1\n* 2 GET U 2\n* 3 GET U 3\n* COUNT 4\na OK\n"}, turn{0, "b GET 4 UFT\n", "* 4 GET U 5 F s T {1}\ny\nb OK\n"},
		// A sweep takes those too that its connection was not told of.
		turn{1, "d ADD in d 1\nz\n", "+\n* COUNT 5\nd OK\n"}, turn{0, "c SWEEP\n", "c OK\n"}, turn{1, "e FIND ALL\n", "* FIND 1 2 3 4\ne OK\n"}, turn{1, "f NOOP\n", "* 5 GONE\nf OK\n"}, turn{0, "d NOOP\n", "d OK\n"},
		// Flags of a message that is gone are told no more.
		turn{1, "g PLUS 1:2 d\n", "* 1 FLAGS d\n* 2 FLAGS ds\ng OK\n"}, turn{1, "h SWEEP\n", "* 1 GONE\n* 1 GONE\nh OK\n"}, turn{0, "e GET 3 U\n", "* 3 GET U 3\ne OK\n"}, turn{0, "f NOOP\n", "* 1 GONE\n* 1 GONE\nf OK\n"},
	)
}

// The same place is another message on another connection.
func TestPlacesOfEachConnection(t *testing.T) {
	s := serve(t, twins())
	s.turns(
		turn{0, "o OPEN in\n", openIn}, turn{1, "o OPEN in\n", openIn},
		turn{0, "a PLUS 1 d\nb SWEEP\n", "* 1 FLAGS d\na OK\n* 1 GONE\nb OK\n"},
		turn{2, "o OPEN in\n", "* EPOCH 1\n* NEXT 4\n* COUNT 2\no OK\n"},
		turn{0, "c PLUS 2 a\n", "* 2 FLAGS a\nc OK\n"}, turn{1, "a PLUS 2 f\n", "* 2 FLAGS fs\n* 3 FLAGS a\na OK\n"}, turn{2, "a GET 1:2 UF\n", "* 1 GET U 2 F fs\n* 2 GET U 3 F a\n* 1 FLAGS fs\n* 2 FLAGS a\na OK\n"},
		turn{1, "b COPY 2 out\nc COPY 2 out\n", "* 1 GONE\nb OK\nc OK\n"}, turn{2, "o LOOK out\nb GET 4:5 FT\n", "* EPOCH 2\n* NEXT 6\n* COUNT 5\no OK\n* 4 GET F fs T {2}\ni2\n* 5 GET F a T {2}\ni3\nb OK\n"},
	)
}

func TestConnectionsOfDifferentFolders(t *testing.T) {
	s := serve(t, twins())
	s.turns(
		turn{0, "o OPEN in\n", openIn}, turn{1, "o OPEN out\n", openOut},
		turn{0, "a PLUS 1:* d\n", "* 1 FLAGS d\n* 2 FLAGS ds\n* 3 FLAGS d\na OK\n"}, turn{1, "a NOOP\n", "a OK\n"}, turn{1, "b SWEEP\n", "b OK\n"}, turn{0, "b NOOP\n", "b OK\n"},
		turn{0, "c SWEEP\n", "* 1 GONE\n* 1 GONE\n* 1 GONE\nc OK\n"}, turn{1, "c GET 1:* UFT\n", "* 1 GET U 1 F f T {2}\no1\n* 2 GET U 2 F - T {2}\no2\n* 3 GET U 3 F a T {2}\no3\nc OK\n"},
		turn{1, "d COPY 3,1 in\n", "d OK\n"}, turn{0, "d NOOP\n", "* COUNT 2\nd OK\n"}, turn{0, "e GET 1:* UFT\n", "* 1 GET U 4 F f T {2}\no1\n* 2 GET U 5 F a T {2}\no3\ne OK\n"},
		// A copy is a message by itself.
		turn{0, "f PLUS 1 ds\ng SWEEP\n", "* 1 FLAGS dfs\nf OK\n* 1 GONE\ng OK\n"}, turn{1, "e GET 1 F\n", "* 1 GET F f\ne OK\n"}, turn{1, "f PLUS 3 d\ng SWEEP\n", "* 3 FLAGS ad\nf OK\n* 3 GONE\ng OK\n"}, turn{0, "h GET 1 FT\n", "* 1 GET F a T {2}\no3\nh OK\n"},
		// Each goes to the other's folder, and sees it as it is.
		turn{0, "o OPEN out\n", "* EPOCH 2\n* NEXT 4\n* COUNT 2\no OK\n"}, turn{1, "o LOOK in\n", "* EPOCH 1\n* NEXT 6\n* COUNT 1\no OK\n"}, turn{0, "i PLUS 1 s\n", "* 1 FLAGS fs\ni OK\n"}, turn{1, "h NOOP\n", "h OK\n"},
	)
}

func TestRemoveWhileOthersHaveItOpened(t *testing.T) {
	for _, opened := range []string{"OPEN", "LOOK"} {
		for said, want := range map[string]string{
			"a SHUT\n":              "a OK\n",
			"a BYE\n":               "* BYE\na OK\n",
			"a OPEN out\n":          strings.Replace(openOut, "o OK", "a OK", 1),
			"a LOOK out\n":          strings.Replace(openOut, "o OK", "a OK", 1),
			"a OPEN q\n":            "a NO\n",
			"a LOOK \xff\n":         "a NO\n",
			"a SHUT x\nb SHUT\n":    "a BAD\nb OK\n",
			"a OPEN in\nb OPEN Q\n": strings.Replace(openIn, "o OK", "a OK", 1) + "b NO\n",
		} {
			s := serve(t, twins())
			s.turns(turn{1, "o " + opened + " in\n", openIn}, turn{2, "o LOOK in\n", openIn})
			before := s.s.Files()
			s.turns(
				turn{0, "a REMOVE in\n", "a NO\n"}, turn{1, "x REMOVE in\n", "x NO\n"}, turn{1, "x OPEN\n", "x BAD\n"}, turn{1, "x LOOK q q\n", "x BAD\n"}, turn{1, "x NOOP\n", "x OK\n"}, turn{0, "b REMOVE in\n", "b NO\n"},
				turn{1, said, want}, turn{0, "c REMOVE in\n", "c NO\n"}, turn{2, "x REMOVE in\n", "x NO\n"},
			)
			wantDisk(t, s.s, s.d, before)
			s.turns(turn{2, said, want}, turn{0, "d REMOVE in\n", "d OK\n"}, turn{0, "e LIST\n", "* FOLDER out\ne OK\n"})
		}
	}
}

// A folder of the same name is another one.
func TestAFolderThatIsMadeAnew(t *testing.T) {
	s := serve(t, twins())
	s.turns(
		turn{0, "o OPEN in\n", openIn}, turn{1, "o OPEN out\n", openOut}, turn{0, "a SHUT\n", "a OK\n"}, turn{2, "a REMOVE in\n", "a OK\n"},
		turn{0, "b GET 1 U\n", "b BAD\n"}, turn{0, "c OPEN in\n", "c NO\n"}, turn{1, "a COPY 1 in\n", "a NO\n"}, turn{1, "b ADD in - 0\n\n", "+\nb NO\n"},
	)
	refuseDeliver(t, s.s, "in", "x", api.ErrFolder)
	s.turns(
		turn{1, "c MAKE in\n", "c OK\n"}, turn{0, "o OPEN in\n", "* EPOCH 3\n* NEXT 1\n* COUNT 0\no OK\n"}, turn{1, "d COPY 2 in\n", "d OK\n"}, turn{0, "d NOOP\n", "* COUNT 1\nd OK\n"}, turn{0, "e GET 1 UFT\n", "* 1 GET U 1 F - T {2}\no2\ne OK\n"}, turn{2, "b REMOVE in\n", "b NO\n"},
	)
	s.files("epoch/2", "", "in/1.", "o2", "in/list", withSum("3 2\n1 1 -\n"), "out/1.f", "o1", "out/2.", "o2", "out/3.a", "o3", "out/list", withSum("2 4\n1 1 f\n2 2 -\n3 3 a\n"))
}

// What others do while a text is on its way counts: the message comes in when the newline behind it does.
func TestTextsThatAreOnTheirWay(t *testing.T) {
	s := serve(t, twins())
	s.turns(
		turn{0, "o OPEN in\n", openIn}, turn{0, "a ADD q s 2\nx", "+\n"}, turn{1, "a MAKE q\n", "a OK\n"}, turn{0, "y", ""}, turn{0, "\n", "a OK\n"}, turn{1, "o OPEN q\n", "* EPOCH 3\n* NEXT 2\n* COUNT 1\no OK\n"},
		turn{0, "b ADD q - 2\n", "+\n"}, turn{1, "b SHUT\nc REMOVE q\n", "b OK\nc OK\n"}, turn{0, "xy\n", "b NO\n"},
		// It is no bar to the removal, and a new folder of the name will do.
		turn{0, "c ADD q - 1\nz", "+\n"}, turn{1, "d MAKE q\n", "d OK\n"}, turn{1, "o OPEN q\n", "* EPOCH 4\n* NEXT 1\n* COUNT 0\no OK\n"}, turn{0, "\n", "c OK\n"}, turn{1, "e NOOP\n", "* COUNT 1\ne OK\n"},
		// Those that come in meanwhile have the UIDs ahead of it.
		turn{0, "d ADD in - 1\n", "+\n"}, turn{1, "f ADD in f 1\n", "+\n"}, turn{2, "a ADD in s 1\n2\n", "+\na OK\n"}, turn{1, "1\n", "f OK\n"}, turn{0, "0\n", "* COUNT 6\nd OK\n"}, turn{0, "e GET 4:* UFT\n", "* 4 GET U 4 F s T {1}\n2\n* 5 GET U 5 F f T {1}\n1\n* 6 GET U 6 F - T {1}\n0\ne OK\n"},
		// The room that there is then counts.
		turn{0, "f ADD in - 0\n", "+\n"}, turn{2, "b ADD in - 0\n\nc ADD in - 0\n\nd ADD in - 0\n\n", "+\nb OK\n+\nc OK\n+\nd NO\n"}, turn{0, "\n", "* COUNT 8\nf NO\n"},
		turn{0, "g ADD in - 0\n", "+\n"}, turn{2, "o OPEN in\ne PLUS 8 d\nf SWEEP\n", "* EPOCH 1\n* NEXT 9\n* COUNT 8\no OK\n* 8 FLAGS d\ne OK\n* 8 GONE\nf OK\n"}, turn{0, "\n", "* 8 GONE\n* COUNT 8\ng OK\n"}, turn{2, "g NOOP\n", "* COUNT 8\ng OK\n"},
		// A text that goes wrong changes nothing, and tells nothing.
		turn{0, "h ADD q - 0\n", "+\n"}, turn{2, "h MINUS 1 s\ni PLUS 1 a\n", "h OK\n* 1 FLAGS a\ni OK\n"}, turn{0, "x", "h BAD\n"}, turn{0, "\n", ""}, turn{0, "i NOOP\n", "* 1 FLAGS a\ni OK\n"},
	)
}

// Lines of three connections come in pieces, between one another.
func TestPiecesOfSeveralConnections(t *testing.T) {
	s := serve(t, twins())
	s.turns(
		turn{0, "o OP", ""}, turn{1, "o LOO", ""}, turn{2, "o", ""}, turn{0, "EN in", ""}, turn{1, "K in\na", openIn}, turn{2, " OPEN in\n", openIn}, turn{0, "\na PLUS 1 ", openIn},
		turn{2, "a PLUS 1 s\nb", "* 1 FLAGS s\na OK\n"}, turn{1, " NOOP\n", "* 1 FLAGS s\na OK\n"}, turn{0, "a\n", "* 1 FLAGS as\na OK\n"}, turn{2, " NOOP\n", "* 1 FLAGS as\nb OK\n"},
		// A line that is too long on one is nothing to the others.
		turn{0, strings.Repeat("x", 81), "* BAD\n"}, turn{1, "b NOOP\n", "* 1 FLAGS as\nb OK\n"}, turn{0, "b NOOP\n", ""}, turn{2, strings.Repeat("x", 80), ""}, turn{0, "c NOOP\n", "c OK\n"}, turn{2, "\n", "* BAD\n"},
		turn{1, "c BYE", ""}, turn{0, "d REMOVE out\n", "d OK\n"}, turn{1, "\n", "* BYE\nc OK\n"}, turn{2, "c NOOP\n", "c OK\n"},
	)
	s.refuse(1, "d NOOP\n", api.ErrConn)
}

// The greatest epoch, the most folders and the most messages are those of all connections.
func TestLimitsOfAllConnections(t *testing.T) {
	s := serve(t, f("epoch/96", ""))
	s.turns(
		turn{0, "a MAKE a\n", "a OK\n"}, turn{1, "a MAKE a\n", "a NO\n"}, turn{1, "b MAKE b\n", "b OK\n"}, turn{2, "a REMOVE a\n", "a OK\n"}, turn{0, "b MAKE a\n", "b OK\n"}, turn{1, "c MAKE c\n", "c NO\n"}, turn{2, "b REMOVE a\nc MAKE a\n", "b OK\nc NO\n"},
	)
	s.files("b/list", withSum("98 1\n"), "epoch/99", "")
	s = serve(t, nil)
	for i := range 4 {
		s.turns(turn{i % 3, fmt.Sprintf("a MAKE f%d\n", i), "a OK\n"})
	}
	for conn := range 3 {
		s.turns(turn{conn, "b MAKE q\n", "b NO\n"}, turn{conn, fmt.Sprintf("o OPEN f%d\n", conn), fmt.Sprintf("* EPOCH %d\n* NEXT 1\n* COUNT 0\no OK\n", conn+1)})
	}
	for i := range 8 {
		want := "+\nc OK\n"
		if i%3 == 0 {
			want = fmt.Sprintf("+\n* COUNT %d\nc OK\n", i+1)
		}
		s.turns(turn{i % 3, "c ADD f0 - 0\n\n", want})
	}
	s.turns(turn{0, "d ADD f0 - 0\n\n", "+\n* COUNT 8\nd NO\n"}, turn{1, "d ADD f0 - 0\n\n", "+\nd NO\n"}, turn{0, "e COPY 1 f0\n", "e NO\n"}, turn{0, "f COPY 1:* f1\n", "f OK\n"}, turn{1, "e NOOP\n", "* COUNT 8\ne OK\n"}, turn{2, "d REMOVE f3\ne MAKE f3\n", "d OK\ne OK\n"})
}
