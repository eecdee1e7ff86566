package talk

import (
	"strconv"

	"mailbag/api"
	"mailbag/flags"
	"mailbag/folders"
	"mailbag/lines"
	"mailbag/search"
	"mailbag/store"
	"mailbag/views"
)

// do does what a line asks for; false, if the answer is NO.
func (t *Talk) do(c *conn, line lines.Line, a *answer) bool {
	switch line.Ask {
	case lines.List:
		t.list(a)
	case lines.Make:
		return t.make(line.Folder, a)
	case lines.Remove:
		return t.remove(line.Folder, a)
	case lines.Open:
		return t.open(c, line.Folder, false, a)
	case lines.Look:
		return t.open(c, line.Folder, true, a)
	case lines.Shut:
		c.view = nil
	case lines.Add:
		return t.add(line, a)
	case lines.Get:
		return get(c.view, line, a)
	case lines.Plus:
		return setFlags(c.view, line, flags.Plus, a)
	case lines.Minus:
		return setFlags(c.view, line, flags.Minus, a)
	case lines.Find:
		find(c.view, line.Keys, a)
	case lines.Copy:
		return t.copy(c.view, line, a)
	case lines.Sweep:
		return sweep(c.view, a)
	case lines.Bye:
		a.tell("* BYE")
		c.view, c.ended = nil, true
	}
	return true
}

func (t *Talk) list(a *answer) {
	for _, name := range t.store.Names() {
		a.tell("* FOLDER", name)
	}
}

func (t *Talk) make(name string, a *answer) bool {
	acts, ok := t.store.Make(name)
	a.act(acts)
	return ok
}

func (t *Talk) remove(name string, a *answer) bool {
	f := t.store.Find(name)
	if f == nil || t.isOpened(f) {
		return false
	}
	a.act(t.store.Remove(f))
	return true
}

func (t *Talk) open(c *conn, name string, look bool, a *answer) bool {
	c.view = nil
	f := t.store.Find(name)
	if f == nil {
		return false
	}
	c.view = views.Of(f, look)
	a.tell("* EPOCH", strconv.Itoa(f.Epoch))
	a.tell("* NEXT", strconv.Itoa(f.Next))
	a.tell("* COUNT", strconv.Itoa(c.view.Count()))
	return true
}

func (t *Talk) add(line lines.Line, a *answer) bool {
	_, acts, errno := t.store.Add(line.Folder, line.Flags, line.Text)
	a.act(acts)
	return errno == api.OK
}

func get(v *views.View, line lines.Line, a *answer) bool {
	meant, ok := v.Meant(line.Set)
	for _, p := range meant {
		told := "* " + strconv.Itoa(p.Place) + " GET"
		for i := range len(line.Items) {
			told += " " + item(line.Items[i], p.Message)
		}
		a.tell(told)
	}
	return ok
}

func item(letter byte, m folders.Message) string {
	size := strconv.Itoa(len(m.Text))
	told := ""
	switch letter {
	case lines.ItemUid:
		told = strconv.Itoa(m.Uid)
	case lines.ItemFlags:
		told = flags.Tell(m.Flags)
	case lines.ItemSize:
		told = size
	case lines.ItemText:
		told = "{" + size + "}\n" + m.Text
	}
	return string(letter) + " " + told
}

func setFlags(v *views.View, line lines.Line, change func(have, asked string) string, a *answer) bool {
	meant, ok := v.Meant(line.Set)
	if !ok || v.Look {
		return false
	}
	messages := messagesOf(meant)
	for i, m := range messages {
		messages[i].Flags = change(m.Flags, line.Flags)
	}
	a.act(store.SetFlags(v.Folder, messages))
	return true
}

func find(v *views.View, keys []search.Key, a *answer) {
	told := "* FIND"
	for _, p := range v.There() {
		if fitsAll(p.Message, keys) {
			told += " " + strconv.Itoa(p.Place)
		}
	}
	a.tell(told)
}

func fitsAll(m folders.Message, keys []search.Key) bool {
	for _, key := range keys {
		if !key.Fits(m) {
			return false
		}
	}
	return true
}

func (t *Talk) copy(v *views.View, line lines.Line, a *answer) bool {
	meant, ok := v.Meant(line.Set)
	f := t.store.Find(line.Folder)
	if !ok || f == nil {
		return false
	}
	acts, ok := store.Copy(f, messagesOf(meant))
	a.act(acts)
	return ok
}

func sweep(v *views.View, a *answer) bool {
	if v.Look {
		return false
	}
	a.act(store.Sweep(v.Folder))
	return true
}

func messagesOf(placed []views.Placed) []folders.Message {
	var messages []folders.Message
	for _, p := range placed {
		messages = append(messages, p.Message)
	}
	return messages
}
