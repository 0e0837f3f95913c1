package shelf

import (
	"slices"
	"strconv"
	"strings"

	"holdfast/record"
	"holdfast/store"
	"holdfast/unit"
)

const (
	baseMark   = "b"
	actMark    = "r"
	figures    = 8
	lastNumber = 99999999
)

// nameOf is the name of the object of a number, which is from 0 to the last one.
func nameOf(mark string, number int) string {
	text := strconv.Itoa(number)
	return mark + strings.Repeat("0", figures-len(text)) + text
}

// numberOf is the number of the object of a name, and whether it is one with that mark.
func numberOf(mark, name string) (int, bool) {
	text, ok := strings.CutPrefix(name, mark)
	// Figures alone: an object's name may have a - there, which Atoi would take for a sign.
	if !ok || len(text) != figures || strings.Trim(text, "0123456789") != "" {
		return 0, false
	}
	number, err := strconv.Atoi(text)
	return number, err == nil
}

// numbered tells whether a name is that of a base, or of an act.
func numbered(name string) bool {
	_, base := numberOf(baseMark, name)
	_, act := numberOf(actMark, name)
	return base || act
}

// takeBase takes the unit of the base with the greatest number, and that number; if there is none, it is a new one, and 0.
func takeBase(objects *store.Store, names []string) (*unit.Unit, int, error) {
	greatest := -1
	for _, name := range names {
		if number, ok := numberOf(baseMark, name); ok {
			greatest = max(greatest, number)
		}
	}
	if greatest < 0 {
		return unit.New(), 0, nil
	}
	b, err := objects.Get(nameOf(baseMark, greatest))
	if err != nil {
		return nil, 0, err
	}
	u, err := record.TakeUnit(b)
	if err != nil {
		return nil, 0, err
	}
	return u, greatest, nil
}

// takeActs takes the acts from a number on, as long as there are objects of the next numbers among the names, which rise.
func takeActs(objects *store.Store, names []string, first int) ([]record.Act, error) {
	var acts []record.Act
	for number := first; number <= lastNumber; number++ {
		name := nameOf(actMark, number)
		if _, there := slices.BinarySearch(names, name); !there {
			break
		}
		b, err := objects.Get(name)
		if err != nil {
			return nil, err
		}
		a, err := record.Take(b)
		if err != nil {
			return nil, err
		}
		acts = append(acts, a)
	}
	return acts, nil
}

// doAll does acts, one behind the other, and tells whether all could be done.
func doAll(u *unit.Unit, acts []record.Act) bool {
	for _, a := range acts {
		if _, err := record.Apply(u, a); err != nil {
			return false
		}
	}
	return true
}
