// Package talk: the connections of a server, and how their lines are answered.
package talk

import (
	"mailbag/api"
	"mailbag/folders"
	"mailbag/intake"
	"mailbag/lines"
	"mailbag/store"
	"mailbag/views"
)

const (
	isOK  = "OK"
	isNo  = "NO"
	isBad = "BAD"
)

// Talk keeps the connections.
type Talk struct {
	store *store.Store
	conns [api.MaxConns]conn
}

type conn struct {
	intake intake.Intake
	adding lines.Line  // whose text is to come
	view   *views.View // nil, if no folder is opened
	ended  bool
}

// Of gives connections that have no folder opened.
func Of(s *store.Store) *Talk {
	return &Talk{store: s}
}

// Feed brings bytes of a connection; the answer, and what is done on the disk.
func (t *Talk) Feed(number int, chunk string) (string, []api.Act, api.Errno) {
	if number < 0 || number >= len(t.conns) || t.conns[number].ended {
		return "", nil, api.ErrConn
	}
	if len(chunk) > api.MaxChunk {
		return "", nil, api.ErrLong
	}
	c := &t.conns[number]
	a := &answer{}
	for i := 0; i < len(chunk) && !c.ended; i++ {
		t.take(c, chunk[i], a)
	}
	return a.text.String(), a.acts, api.OK
}

func (t *Talk) take(c *conn, b byte, a *answer) {
	piece, bytes := c.intake.Take(b)
	switch piece {
	case intake.Line:
		t.hear(c, bytes, a)
	case intake.LongLine:
		a.tell(lines.NoTag, isBad)
	case intake.Text:
		line := c.added()
		line.Text = bytes
		t.carryOut(c, line, a)
	case intake.LongText:
		a.tell(c.added().Tag, isBad)
	}
}

// added tells the line whose text has come, and keeps it no longer.
func (c *conn) added() lines.Line {
	line := c.adding
	c.adding = lines.Line{}
	return line
}

func (t *Talk) hear(c *conn, text string, a *answer) {
	line, ok := lines.Read(text, c.view != nil)
	if !ok {
		a.tell(line.Tag, isBad)
		return
	}
	if line.Ask == lines.Add {
		a.tell("+")
		c.adding = line
		c.intake.Expect(line.Size)
		return
	}
	t.carryOut(c, line, a)
}

// carryOut does what a line asks for, and answers it to the end.
func (t *Talk) carryOut(c *conn, line lines.Line, a *answer) {
	verdict := isNo
	if t.do(c, line, a) {
		verdict = isOK
	}
	if c.view != nil && line.Update != lines.Nothing {
		for _, news := range c.view.Update(line.Update == lines.Whole) {
			a.tell(news)
		}
	}
	a.tell(line.Tag, verdict)
}

func (t *Talk) isOpened(f *folders.Folder) bool {
	for _, c := range t.conns {
		if c.view != nil && c.view.Folder == f {
			return true
		}
	}
	return false
}
