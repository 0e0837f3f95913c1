package manifest_test

import (
	"bytes"
	"testing"

	"holdfast/cell"
	"holdfast/manifest"
	"holdfast/segment"
)

// wipe writes over all memory that a list has, its spare room included.
func wipe[T any](list []T, with T) {
	for i := range list[:cap(list)] {
		list[:cap(list)][i] = with
	}
}

var wiped = manifest.Part{First: 77, Many: 77, Size: 77, Sum: sumOf("wiped")}

// roomy is a manifest whose list has room behind it, in which something else stands.
func roomy() manifest.Manifest {
	m := of(3, 10, 2, 3, 4, 5)
	m.Parts, m.To = m.Parts[:2], 15
	return m
}

// roomOf is all that the list of a manifest has, as a text.
func roomOf(m manifest.Manifest) string {
	m.Parts = m.Parts[:cap(m.Parts)]
	return show(m)
}

// P15.1: what is handed in is neither changed nor kept, nor is its room; an answer is new memory.

func TestCopyIsApart(t *testing.T) {
	m := roomy()
	was, want := roomOf(m), show(m)
	a, b := manifest.Copy(m), manifest.Copy(m)
	wipe(a.Parts, wiped)
	if roomOf(m) != was || show(b) != want {
		t.Error(roomOf(m), show(b))
	}
	wipe(m.Parts, wiped)
	if show(b) != want {
		t.Error(show(b))
	}
}

func TestAskingChangesNothing(t *testing.T) {
	m, other := roomy(), roomy()
	was := roomOf(m)
	if err := manifest.Check(m); err != nil {
		t.Error(err)
	}
	if _, err := manifest.Digest(m); err != nil {
		t.Error(err)
	}
	if place, there := manifest.Find(m, 12); place != 1 || !there || !manifest.Same(m, other) {
		t.Error(place, there)
	}
	if roomOf(m) != was || roomOf(other) != was {
		t.Error(roomOf(m), roomOf(other))
	}
}

func TestBytesAreApart(t *testing.T) {
	m := roomy()
	was, want := roomOf(m), framed(meantText(m))
	put, err := manifest.Put(m)
	if err != nil {
		t.Fatal(err)
	}
	again, err := manifest.Put(m)
	if err != nil {
		t.Fatal(err)
	}
	wipe(again, 'W')
	if roomOf(m) != was {
		t.Error(roomOf(m))
	}
	wipe(m.Parts, wiped)
	if !bytes.Equal(put, want) {
		t.Errorf("%x, want %x", put, want)
	}
}

func TestTakenIsApart(t *testing.T) {
	want := show(roomy())
	room := append(framed(meantText(roomy())), 9, 9, 9)
	was := bytes.Clone(room)
	b := room[:len(room)-3]
	first, err := manifest.Take(b)
	if err != nil || !bytes.Equal(room, was) {
		t.Fatal(err, room)
	}
	second, err := manifest.Take(b)
	if err != nil {
		t.Fatal(err)
	}
	wipe(first.Parts, wiped)
	if !bytes.Equal(room, was) || show(second) != want {
		t.Error(room, show(second))
	}
	wipe(room, 'W')
	if show(second) != want {
		t.Error(show(second))
	}
}

// roomySegment is a segment whose lists have room behind them.
func roomySegment() segment.Segment {
	text := []byte("abcdefgh")
	cells := []cell.Cell{{Kind: 1, Data: text[:2:4]}, hole, {Kind: 1, Data: text[4:5]}, data("behind"), trimmed}
	return cellsFrom(3, cells[:3]...)
}

// roomOfSegment is all that the lists of a segment have, as a text.
func roomOfSegment(s segment.Segment) string {
	text := showSegment(cellsFrom(s.First, s.Cells[:cap(s.Cells)]...))
	for _, c := range s.Cells {
		text += string(c.Data[:cap(c.Data)]) + "."
	}
	return text
}

// wipeSegment writes over all memory that a segment has.
func wipeSegment(s segment.Segment) {
	for _, c := range s.Cells[:cap(s.Cells)] {
		wipe(c.Data, 'W')
	}
	wipe(s.Cells, cell.Cell{Kind: 77})
}

func TestOfIsApart(t *testing.T) {
	s := roomySegment()
	was, want := roomOfSegment(s), bytesOf(t, s)
	wantPart := manifest.Part{First: 3, Many: 3, Size: len(want), Sum: sumOf(string(want))}
	p, b, err := manifest.Of(s)
	if err != nil {
		t.Fatal(err)
	}
	_, again, err := manifest.Of(s)
	if err != nil {
		t.Fatal(err)
	}
	wipe(again, 'W')
	if roomOfSegment(s) != was {
		t.Error(roomOfSegment(s))
	}
	wipeSegment(s)
	if p != wantPart || !bytes.Equal(b, want) {
		t.Errorf("%s, %x, want %s, %x", showPart(p), b, showPart(wantPart), want)
	}
}

func TestHeldIsApart(t *testing.T) {
	want := showSegment(roomySegment())
	p, own, err := manifest.Of(roomySegment())
	if err != nil {
		t.Fatal(err)
	}
	room := append(bytes.Clone(own), 9, 9, 9)
	was := bytes.Clone(room)
	b := room[:len(own)]
	first, err := manifest.Holds(p, b)
	if err != nil || !bytes.Equal(room, was) {
		t.Fatal(err, room)
	}
	second, err := manifest.Holds(p, b)
	if err != nil {
		t.Fatal(err)
	}
	wipeSegment(first)
	if !bytes.Equal(room, was) || showSegment(second) != want {
		t.Error(room, showSegment(second))
	}
	wipe(room, 'W')
	if showSegment(second) != want {
		t.Error(showSegment(second))
	}
}

// No two lists of an answer share memory.
func TestHeldCellsAreApart(t *testing.T) {
	p, b, err := manifest.Of(roomySegment())
	if err != nil {
		t.Fatal(err)
	}
	for i := range roomySegment().Cells {
		got, err := manifest.Holds(p, b)
		if err != nil {
			t.Fatal(err)
		}
		want := roomySegment()
		wipe(got.Cells[i].Data, 'W')
		got.Cells[i], want.Cells[i] = empty, empty
		if showSegment(got) != showSegment(want) {
			t.Errorf("cell %d: %s, want %s", i, showSegment(got), showSegment(want))
		}
	}
}
