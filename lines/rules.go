package lines

// Ask is what a line asks for.
type Ask int

// What lines ask for.
const (
	Noop Ask = iota
	List
	Make
	Remove
	Open
	Look
	Shut
	Add
	Get
	Plus
	Minus
	Find
	Copy
	Sweep
	Bye
)

// Update is how the view is brought up to date ahead of the line's OK or NO.
type Update int

// The ways to bring a view up to date.
const (
	Nothing Update = iota
	Growing        // messages that are gone keep their places
	Whole
)

// The kinds of parts behind a line's word.
const (
	aFolder     = 'f'
	flagsOrNone = 'F'
	someFlags   = 'G'
	aSize       = 'n'
	aSet        = 's'
	theItems    = 'i'
	aKey        = 'k'
)

// rule is how a line is read by its word.
type rule struct {
	word   string
	ask    Ask
	parts  string // their kinds, one letter for each
	many   bool   // the last part may come several times
	opened bool   // a folder must be opened
	update Update
}

var rules = [...]rule{
	{word: "NOOP", ask: Noop, update: Whole},
	{word: "LIST", ask: List, update: Whole},
	{word: "MAKE", ask: Make, parts: "f", update: Whole},
	{word: "REMOVE", ask: Remove, parts: "f", update: Whole},
	{word: "OPEN", ask: Open, parts: "f"},
	{word: "LOOK", ask: Look, parts: "f"},
	{word: "SHUT", ask: Shut, opened: true},
	{word: "ADD", ask: Add, parts: "fFn", update: Whole},
	{word: "GET", ask: Get, parts: "si", opened: true, update: Growing},
	{word: "PLUS", ask: Plus, parts: "sG", opened: true, update: Growing},
	{word: "MINUS", ask: Minus, parts: "sG", opened: true, update: Growing},
	{word: "FIND", ask: Find, parts: "k", many: true, opened: true, update: Growing},
	{word: "COPY", ask: Copy, parts: "sf", opened: true, update: Whole},
	{word: "SWEEP", ask: Sweep, opened: true, update: Whole},
	{word: "BYE", ask: Bye},
}

func ruleOf(word string) (rule, bool) {
	for _, r := range rules {
		if r.word == word {
			return r, true
		}
	}
	return rule{}, false
}

// takes tells whether a line may have so many parts behind its word.
func (r rule) takes(count int) bool {
	return count == len(r.parts) || r.many && count > len(r.parts)
}

func (r rule) kind(i int) byte {
	return r.parts[min(i, len(r.parts)-1)]
}
