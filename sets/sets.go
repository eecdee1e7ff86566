// Package sets: the sets of places in lines.
package sets

import (
	"strings"

	"mailbag/numbers"
)

const (
	most     = 999
	last     = 0 // stands for the last place, which only the view tells
	lastWord = "*"
)

// Set is what a set says.
type Set []reach

// reach is a range; either end may be the greater.
type reach struct {
	from, to int
}

// Read tells the set that a text is, if it is one.
func Read(text string) (Set, bool) {
	var set Set
	for _, part := range strings.Split(text, ",") {
		r, ok := readReach(part)
		if !ok {
			return nil, false
		}
		set = append(set, r)
	}
	return set, true
}

// Places tells the places that a set means among so many, each once, by rising numbers; false, if one of them is not there.
func (s Set) Places(count int) ([]int, bool) {
	if count == 0 {
		return nil, false
	}
	meant := make([]bool, count)
	for _, r := range s {
		from, to := placeOf(r.from, count), placeOf(r.to, count)
		if max(from, to) > count {
			return nil, false
		}
		for place := min(from, to); place <= max(from, to); place++ {
			meant[place-1] = true
		}
	}
	var places []int
	for i, is := range meant {
		if is {
			places = append(places, i+1)
		}
	}
	return places, true
}

func placeOf(place, count int) int {
	if place == last {
		return count
	}
	return place
}

func readReach(text string) (reach, bool) {
	first, second, two := strings.Cut(text, ":")
	if !two {
		second = first
	}
	from, okFrom := readPlace(first)
	to, okTo := readPlace(second)
	return reach{from, to}, okFrom && okTo
}

func readPlace(text string) (int, bool) {
	if text == lastWord {
		return last, true
	}
	return numbers.Read(text, 1, most)
}
