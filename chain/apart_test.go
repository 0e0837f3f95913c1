package chain_test

import (
	"testing"

	"holdfast/chain"
	"holdfast/manifest"
)

// wipe writes over all memory that a list has, its spare room included.
func wipe[T any](list []T, with T) {
	for i := range list[:cap(list)] {
		list[:cap(list)][i] = with
	}
}

var wiped = manifest.Part{First: 77, Many: 77, Size: 77, Sum: sumOf("wiped")}

// roomy is a chain whose lists have room behind them, in which something else stands.
func roomy() []manifest.Manifest {
	list := four()
	for i := range list {
		parts := append(row(list[i].From, make([]int, 0)...), list[i].Parts...)
		parts = append(parts, wiped, wiped)
		list[i].Parts = parts[:len(list[i].Parts)]
	}
	return append(list, manifest.Manifest{Number: 88})[:4]
}

// roomOf is all that a list has, as a text.
func roomOf(list []manifest.Manifest) string {
	var all []manifest.Manifest
	for _, m := range list[:cap(list)] {
		m.Parts = m.Parts[:cap(m.Parts)]
		all = append(all, m)
	}
	return showAll(all)
}

// P16.1: what is handed in is neither changed nor kept, nor is its room; an answer is new memory.

func TestAskingChangesNothing(t *testing.T) {
	list, other := roomy(), roomy()
	was, wasOther := roomOf(list), roomOf(other)
	if n, err := chain.Check(list); n != 4 || err != nil {
		t.Error(n, err)
	}
	if _, err := chain.Head(list); err != nil {
		t.Error(err)
	}
	if m, part, there := chain.Find(list, 75); m != 2 || part != 2 || !there {
		t.Error(m, part, there)
	}
	if begin, end, mark, same := chain.Begin(list), chain.End(list), chain.Mark(list), chain.Common(list, other); begin != 5 || end != 85 || mark != 90 || same != 4 {
		t.Error(begin, end, mark, same)
	}
	if roomOf(list) != was || roomOf(other) != wasOther {
		t.Error(roomOf(list), roomOf(other))
	}
}

func TestNextIsApart(t *testing.T) {
	list := roomy()
	room := append(row(85, 1, 2), wiped, wiped)
	parts := room[:2]
	was, wasRoom := roomOf(list), show(manifest.Manifest{Parts: room})
	a, err := chain.Next(list, 85, 90, parts)
	if err != nil {
		t.Fatal(err)
	}
	b, err := chain.Next(list, 85, 90, parts)
	if err != nil {
		t.Fatal(err)
	}
	want := show(b)
	wipe(a.Parts, wiped)
	if roomOf(list) != was || show(manifest.Manifest{Parts: room}) != wasRoom || show(b) != want {
		t.Error(roomOf(list), show(manifest.Manifest{Parts: room}), show(b))
	}
	wipe(room, wiped)
	for _, m := range list {
		wipe(m.Parts, wiped)
	}
	wipe(list, manifest.Manifest{Number: 99})
	if show(b) != want {
		t.Error(show(b))
	}
}
