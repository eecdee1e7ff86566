// Package intake: how the bytes of a connection become lines and texts.
//
// Bytes are taken one by one, so that it can make no difference in what pieces they come.
package intake

import "mailbag/api"

// Piece is what became whole with a byte.
type Piece int

// The pieces.
const (
	Nothing Piece = iota
	Line
	LongLine // which is not whole, but already too long
	Text
	LongText // behind which no newline came
)

// Intake keeps the bytes of a piece that is not whole yet.
type Intake struct {
	got      []byte
	text     bool // what comes is a text
	size     int  // of the text
	dropping bool // up to the next newline
}

// Expect makes the next bytes a text, of this size and with a newline behind it.
func (in *Intake) Expect(size int) {
	in.text, in.size = true, size
}

// Take takes a byte; what is whole thereby, and its bytes, without the newline.
func (in *Intake) Take(b byte) (Piece, string) {
	newline := b == '\n'
	switch {
	case in.dropping:
		in.dropping = !newline
		return Nothing, ""
	case in.text && len(in.got) < in.size, !in.text && len(in.got) < api.MaxLine && !newline:
		in.got = append(in.got, b)
		return Nothing, ""
	}
	piece := whole(in.text, newline)
	bytes := string(in.got)
	*in = Intake{dropping: !newline}
	return piece, bytes
}

func whole(text, newline bool) Piece {
	switch {
	case text && newline:
		return Text
	case text:
		return LongText
	case newline:
		return Line
	}
	return LongLine
}
