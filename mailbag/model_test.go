package mailbag_test

import (
	"fmt"
	"maps"
	"regexp"
	"slices"
	"strconv"
	"strings"
	"unicode/utf8"

	"mailbag/api"
)

// model: a server by the document's words, written by other means than the program's: it looks at all bytes that wait for an answer, reads lines by regular expressions, and keeps folders as the reading of disks does.
type model struct {
	state
	talkers [3]talker
	steps   []string // what lasts behind each step of the last call
	counts  map[string]int
}

type talker struct {
	waiting  string
	dropping bool
	adding   []string // tag, folder, flags and size of an ADD whose text is to come
	ended    bool
	opened   string // a code
	look     bool
	view     []sight
}

type sight struct {
	uid  int
	told string
}

const (
	someFlags = `(?:ad?f?s?|df?s?|fs?|s)`
	aPlace    = `(?:[1-9][0-9]{0,2}|\*)`
	aRange    = aPlace + `(?::` + aPlace + `)?`
	aSet      = `(` + aRange + `(?:,` + aRange + `)*)`
	aFolder   = `([^ ]+)`
	aKey      = `(?:ALL|[+-]` + someFlags + `|>(?:0|[1-9][0-9]{0,2})|=[^ ]+)`
)

var tagShape = regexp.MustCompile(`^([A-Za-z0-9]{1,8})( (?s:.*))?$`)

var lineShapes = map[string]*regexp.Regexp{
	"NOOP":   regexp.MustCompile(`^ NOOP$`),
	"LIST":   regexp.MustCompile(`^ LIST$`),
	"MAKE":   regexp.MustCompile(`^ MAKE ` + aFolder + `$`),
	"REMOVE": regexp.MustCompile(`^ REMOVE ` + aFolder + `$`),
	"OPEN":   regexp.MustCompile(`^ OPEN ` + aFolder + `$`),
	"LOOK":   regexp.MustCompile(`^ LOOK ` + aFolder + `$`),
	"SHUT":   regexp.MustCompile(`^ SHUT$`),
	"ADD":    regexp.MustCompile(`^ ADD ` + aFolder + ` (-|` + someFlags + `) ([0-9]|[123][0-9]|40)$`),
	"GET":    regexp.MustCompile(`^ GET ` + aSet + ` ([UFST]{1,4})$`),
	"PLUS":   regexp.MustCompile(`^ PLUS ` + aSet + ` (` + someFlags + `)$`),
	"MINUS":  regexp.MustCompile(`^ MINUS ` + aSet + ` (` + someFlags + `)$`),
	"FIND":   regexp.MustCompile(`^ FIND (` + aKey + `(?: ` + aKey + `)*)$`),
	"COPY":   regexp.MustCompile(`^ COPY ` + aSet + ` ` + aFolder + `$`),
	"SWEEP":  regexp.MustCompile(`^ SWEEP$`),
	"BYE":    regexp.MustCompile(`^ BYE$`),
}

func newModel(s state) *model {
	return &model{state: s, counts: map[string]int{}}
}

func (m *model) feed(conn int, chunk string) (string, api.Errno) {
	m.steps = nil
	switch {
	case conn < 0 || conn > 2 || m.talkers[conn].ended:
		return "", api.ErrConn
	case len(chunk) > 2000:
		return "", api.ErrLong
	}
	c := &m.talkers[conn]
	c.waiting += chunk
	out := ""
	for !c.ended {
		more, ok := m.next(c)
		out += more
		if !ok {
			break
		}
	}
	return out, api.OK
}

func (m *model) deliver(name, text string) (int, api.Errno) {
	m.steps = nil
	code, fo, there := m.named(name)
	switch {
	case len(text) > 40:
		return 0, api.ErrLong
	case !there:
		return 0, api.ErrFolder
	case len(fo.messages) == 8 || fo.next > 99:
		return 0, api.ErrFull
	}
	m.add(code, "", text)
	return fo.next, api.OK
}

// clone: folders are never written into, but views are.
func (m *model) clone() *model {
	other := newModel(m.state)
	other.talkers = m.talkers
	for i, c := range m.talkers {
		other.talkers[i].view = slices.Clone(c.view)
	}
	return other
}

// next tells false if it needs more bytes.
func (m *model) next(c *talker) (string, bool) {
	end := strings.Index(c.waiting, "\n")
	switch {
	case c.dropping && end < 0:
		c.waiting = ""
		return "", false
	case c.dropping:
		c.waiting, c.dropping = c.waiting[end+1:], false
		return "", true
	case c.adding != nil:
		return m.text(c)
	case end < 0 && len(c.waiting) <= 80:
		return "", false
	case end < 0 || end > 80:
		c.dropping = true
		m.counts["long"]++
		return "* BAD\n", true
	}
	line := c.waiting[:end]
	c.waiting = c.waiting[end+1:]
	return m.line(c, line), true
}

func (m *model) text(c *talker) (string, bool) {
	size := numbers(c.adding[3:])[0]
	if len(c.waiting) <= size {
		return "", false
	}
	add, text, behind := c.adding, c.waiting[:size], c.waiting[size:]
	c.adding, c.waiting = nil, behind
	if behind[0] != '\n' {
		c.dropping = true
		m.counts["text BAD"]++
		return add[0] + " BAD\n", true
	}
	c.waiting = behind[1:]
	code, fo, there := m.named(add[1])
	ok := there && len(fo.messages) < 8 && fo.next <= 99
	if ok {
		m.add(code, strings.Trim(add[2], "-"), text)
	}
	return m.end(c, add[0], "ADD", ok), true
}

func (m *model) line(c *talker, line string) string {
	head := tagShape.FindStringSubmatch(line)
	if head == nil {
		m.counts["* BAD"]++
		return "* BAD\n"
	}
	tag := head[1]
	for word, shape := range lineShapes {
		parts := shape.FindStringSubmatch(head[2])
		if parts == nil || word == "GET" && twice(parts[2]) {
			continue
		}
		if c.opened == "" && slices.Contains([]string{"SHUT", "GET", "PLUS", "MINUS", "FIND", "COPY", "SWEEP"}, word) {
			continue
		}
		if word == "ADD" {
			c.adding = append([]string{tag}, parts[1:]...)
			return "+\n"
		}
		out, ok := m.do(c, word, parts[1:])
		return out + m.end(c, tag, word, ok)
	}
	m.counts["BAD"]++
	return tag + " BAD\n"
}

func twice(letters string) bool {
	for _, r := range letters {
		if strings.Count(letters, string(r)) > 1 {
			return true
		}
	}
	return false
}

// end: how the view is brought up to date, and OK or NO.
func (m *model) end(c *talker, tag, word string, ok bool) string {
	out := ""
	if c.opened != "" {
		switch word {
		case "NOOP", "LIST", "MAKE", "REMOVE", "ADD", "COPY", "SWEEP":
			out = m.gone(c) + m.news(c)
		case "GET", "PLUS", "MINUS", "FIND":
			out = m.news(c)
		}
	}
	if ok {
		m.counts[word+" OK"]++
		return out + tag + " OK\n"
	}
	m.counts[word+" NO"]++
	return out + tag + " NO\n"
}

func (m *model) gone(c *talker) string {
	out := ""
	for i := 0; i < len(c.view); {
		if _, there := m.byUid(c)[c.view[i].uid]; there {
			i++
			continue
		}
		m.counts["gone"]++
		out += fmt.Sprintf("* %d GONE\n", i+1)
		c.view = slices.Delete(slices.Clone(c.view), i, i+1)
	}
	return out
}

func (m *model) news(c *talker) string {
	out := ""
	known := map[int]int{}
	for _, s := range c.view {
		known[s.uid]++
	}
	count := len(c.view)
	for _, msg := range m.folders[c.opened].messages {
		if known[msg.uid] == 0 {
			c.view = append(c.view, sight{msg.uid, msg.flags})
		}
	}
	if len(c.view) > count {
		out = fmt.Sprintf("* COUNT %d\n", len(c.view))
	}
	for i, s := range c.view {
		msg, there := m.byUid(c)[s.uid]
		if there && msg.flags != s.told {
			c.view[i].told = msg.flags
			out += fmt.Sprintf("* %d FLAGS %s\n", i+1, dash(msg.flags))
			m.counts["flags"]++
		}
		if !there {
			m.counts["kept though gone"]++
		}
	}
	return out
}

func dash(flags string) string {
	if flags == "" {
		return "-"
	}
	return flags
}

func (m *model) byUid(c *talker) map[int]message {
	out := map[int]message{}
	for _, msg := range m.folders[c.opened].messages {
		out[msg.uid] = msg
	}
	return out
}

func (m *model) named(name string) (string, folder, bool) {
	code, ok := codeOfName(name)
	fo, there := m.folders[code]
	return code, fo, ok && there
}

func codeOfName(name string) (string, bool) {
	runes := []rune(name)
	if !utf8.ValidString(name) || len(runes) < 1 || len(runes) > 8 {
		return "", false
	}
	code := ""
	for _, r := range runes {
		if codeOf(r) == "" {
			return "", false
		}
		code += codeOf(r)
	}
	return code, true
}

// change lets a folder be another, which is a step.
func (m *model) change(code string, fo folder) {
	m.folders = maps.Clone(m.folders)
	m.folders[code] = fo
	m.steps = append(m.steps, m.lasting())
}

func (m *model) add(code, flags, text string) {
	fo := m.folders[code]
	fo.messages = slices.Clone(fo.messages)
	key := leastKey(fo)
	fo.takeIn(map[int]message{key: {key: key, flags: flags, came: flags, text: text}})
	m.change(code, fo)
}

// meant tells false if the answer is NO; places of messages that are gone are not among them.
func (m *model) meant(c *talker, set string) ([]int, bool) {
	asked := map[int]int{}
	for _, part := range strings.Split(set, ",") {
		var ends []int
		for _, word := range strings.Split(part, ":") {
			place := len(c.view)
			if word != "*" {
				place = numbers([]string{word})[0]
			}
			if place < 1 || place > len(c.view) {
				return nil, false
			}
			ends = append(ends, place)
		}
		for place := slices.Min(ends); place <= slices.Max(ends); place++ {
			asked[place]++
		}
	}
	var out []int
	for _, place := range slices.Sorted(maps.Keys(asked)) {
		if _, there := m.byUid(c)[c.view[place-1].uid]; there {
			out = append(out, place)
		}
	}
	return out, true
}

func (m *model) do(c *talker, word string, parts []string) (string, bool) {
	switch word {
	case "LIST":
		return m.list(), true
	case "MAKE":
		return "", m.make(parts[0])
	case "REMOVE":
		return "", m.remove(parts[0])
	case "OPEN", "LOOK":
		return m.open(c, parts[0], word == "LOOK")
	case "SHUT":
		c.opened = ""
	case "GET":
		return m.get(c, parts[0], parts[1])
	case "PLUS", "MINUS":
		return "", m.mark(c, parts[0], parts[1], word == "PLUS")
	case "FIND":
		return m.find(c, strings.Split(parts[0], " ")), true
	case "COPY":
		return "", m.copy(c, parts[0], parts[1])
	case "SWEEP":
		return "", m.sweep(c)
	case "BYE":
		c.opened, c.ended = "", true
		return "* BYE\n", true
	}
	return "", true
}

func (m *model) list() string {
	out := ""
	for _, code := range slices.Sorted(maps.Keys(m.folders)) {
		name, _ := nameOf(code)
		out += "* FOLDER " + name + "\n"
	}
	return out
}

func (m *model) make(name string) bool {
	code, isName := codeOfName(name)
	if _, there := m.folders[code]; !isName || there || len(m.folders) == 4 || m.epoch == 99 {
		return false
	}
	m.epoch++
	m.change(code, folder{epoch: m.epoch, next: 1})
	return true
}

func (m *model) remove(name string) bool {
	code, _, there := m.named(name)
	for _, c := range m.talkers {
		there = there && c.opened != code
	}
	if !there {
		return false
	}
	m.folders = maps.Clone(m.folders)
	delete(m.folders, code)
	m.state.mark = "epoch/" + strconv.Itoa(m.epoch)
	m.steps = append(m.steps, m.lasting())
	return true
}

func (m *model) open(c *talker, name string, look bool) (string, bool) {
	c.opened, c.view = "", nil
	code, fo, there := m.named(name)
	if !there {
		return "", false
	}
	c.opened, c.look = code, look
	for _, msg := range fo.messages {
		c.view = append(c.view, sight{msg.uid, msg.flags})
	}
	return fmt.Sprintf("* EPOCH %d\n* NEXT %d\n* COUNT %d\n", fo.epoch, fo.next, len(fo.messages)), true
}

func (m *model) get(c *talker, set, items string) (string, bool) {
	places, ok := m.meant(c, set)
	out := ""
	for _, place := range places {
		msg := m.byUid(c)[c.view[place-1].uid]
		out += fmt.Sprintf("* %d GET", place)
		for _, item := range items {
			out += map[rune]string{
				'U': fmt.Sprintf(" U %d", msg.uid),
				'F': fmt.Sprintf(" F %s", dash(msg.flags)),
				'S': fmt.Sprintf(" S %d", len(msg.text)),
				'T': fmt.Sprintf(" T {%d}\n%s", len(msg.text), msg.text),
			}[item]
		}
		out += "\n"
	}
	return out, ok
}

func (m *model) mark(c *talker, set, flags string, plus bool) bool {
	places, ok := m.meant(c, set)
	if !ok || c.look {
		return false
	}
	fo := m.state.folders[c.opened]
	fo.messages = slices.Clone(fo.messages)
	for i, msg := range fo.messages {
		is := func(place int) bool { return c.view[place-1].uid == msg.uid }
		if !slices.ContainsFunc(places, is) {
			continue
		}
		out := ""
		for _, r := range "adfs" {
			has, asked := strings.ContainsRune(msg.flags, r), strings.ContainsRune(flags, r)
			if plus && (has || asked) || !plus && has && !asked {
				out += string(r)
			}
		}
		fo.messages[i].flags = out
	}
	m.change(c.opened, fo)
	return true
}

func (m *model) find(c *talker, keys []string) string {
	out := "* FIND"
	for i, s := range c.view {
		msg, fits := m.byUid(c)[s.uid]
		for _, key := range keys {
			rest := key[1:]
			switch key[0] {
			case '+':
				for _, r := range rest {
					fits = fits && strings.ContainsRune(msg.flags, r)
				}
			case '-':
				for _, r := range rest {
					fits = fits && !strings.ContainsRune(msg.flags, r)
				}
			case '>':
				fits = fits && len(msg.text) > numbers([]string{rest})[0]
			case '=':
				fits = fits && strings.Index(msg.text, rest) >= 0
			}
		}
		if fits {
			out += fmt.Sprintf(" %d", i+1)
		}
	}
	return out + "\n"
}

func (m *model) copy(c *talker, set, name string) bool {
	places, ok := m.meant(c, set)
	code, fo, there := m.named(name)
	if !ok || !there || len(fo.messages)+len(places) > 8 || fo.next+len(places) > 100 {
		return false
	}
	from := m.byUid(c)
	for _, place := range places {
		msg := from[c.view[place-1].uid]
		m.add(code, msg.flags, msg.text)
	}
	return true
}

func (m *model) sweep(c *talker) bool {
	if c.look {
		return false
	}
	for {
		fo := m.folders[c.opened]
		i := slices.IndexFunc(fo.messages, func(msg message) bool { return strings.Contains(msg.flags, "d") })
		if i < 0 {
			return true
		}
		fo.messages = slices.Delete(slices.Clone(fo.messages), i, i+1)
		m.change(c.opened, fo)
	}
}
