package talk

import (
	"strings"

	"mailbag/api"
)

// answer is what goes back from a call.
type answer struct {
	text strings.Builder
	acts []api.Act
}

// tell answers a line.
func (a *answer) tell(words ...string) {
	a.text.WriteString(strings.Join(words, " "))
	a.text.WriteByte('\n')
}

func (a *answer) act(acts []api.Act) {
	a.acts = append(a.acts, acts...)
}
