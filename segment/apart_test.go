package segment_test

import (
	"bytes"
	"testing"

	"holdfast/cell"
	"holdfast/segment"
)

// wiped writes over all memory that a segment has, its spare room included.
func wiped(s segment.Segment) {
	for i := range s.Cells[:cap(s.Cells)] {
		c := &s.Cells[:cap(s.Cells)][i]
		wipe(c.Data)
		*c = cell.Cell{Kind: 77, Data: []byte("wiped")}
	}
}

func wipe(b []byte) {
	for i := range b[:cap(b)] {
		b[:cap(b)][i] = 'W'
	}
}

// roomy is a segment whose lists have room behind them, enough for as much once more, in which something else stands.
func roomy(first int) segment.Segment {
	text := []byte("abcdefgh")
	cells := []cell.Cell{{Kind: 1, Data: text[:2:4]}, hole, {Kind: 1, Data: text[4:5]}, data("behind"), trimmed, data("it"), empty, hole}
	return of(first, cells[:3]...)
}

const wantRoomy = `3 [1:"ab" 2:"" 1:"e"]`

// roomOf is all that the lists of a roomy segment have, as a text.
func roomOf(s segment.Segment) string {
	text := show(of(s.First, s.Cells[:cap(s.Cells)]...))
	for _, c := range s.Cells {
		text += string(c.Data[:cap(c.Data)]) + "."
	}
	return text
}

// P14.1: what is handed in is neither changed nor kept, nor is its room.
func TestArgumentsStay(t *testing.T) {
	for name, call := range calls() {
		a, b := roomy(3), roomy(6)
		wasA, wasB := roomOf(a), roomOf(b)
		got := call.of(a, b)
		if roomOf(a) != wasA || roomOf(b) != wasB {
			t.Errorf("%s: %s, %s, was %s, %s", name, roomOf(a), roomOf(b), wasA, wasB)
		}
		wiped(a)
		wiped(b)
		if show(got) != call.want {
			t.Errorf("%s: %s, want %s", name, show(got), call.want)
		}
	}
}

// P14.1: an answer is new memory: writing all over it, and behind it, is to be seen nowhere else.
func TestAnswersAreApart(t *testing.T) {
	for name, call := range calls() {
		a, b := roomy(3), roomy(6)
		wasA, wasB := roomOf(a), roomOf(b)
		first, second := call.of(a, b), call.of(a, b)
		wiped(first)
		if show(second) != call.want || roomOf(a) != wasA || roomOf(b) != wasB {
			t.Errorf("%s: %s, %s, %s", name, show(second), roomOf(a), roomOf(b))
		}
	}
}

// P14.1: no two lists of an answer share memory.
func TestCellsAreApart(t *testing.T) {
	for name, call := range calls() {
		for i := range call.of(roomy(3), roomy(6)).Cells {
			got, want := call.of(roomy(3), roomy(6)), call.of(roomy(3), roomy(6))
			wipe(got.Cells[i].Data)
			got.Cells[i], want.Cells[i] = empty, empty
			if show(got) != show(want) {
				t.Errorf("%s: cell %d: %s, want %s", name, i, show(got), show(want))
			}
		}
	}
}

type call struct {
	of   func(a, b segment.Segment) segment.Segment
	want string
}

// calls is the calls that answer a segment (At: of the one cell), of one from 3 to 6, and one from 6 to 9.
func calls() map[string]call {
	right := func(s segment.Segment, err error) segment.Segment {
		if err != nil {
			panic(err)
		}
		return s
	}
	return map[string]call{
		"Copy":                   {func(a, b segment.Segment) segment.Segment { return segment.Copy(a) }, wantRoomy},
		"Join":                   {func(a, b segment.Segment) segment.Segment { return right(segment.Join(a, b)) }, `3 [1:"ab" 2:"" 1:"e" 1:"ab" 2:"" 1:"e"]`},
		"Join of nothing and it": {func(a, b segment.Segment) segment.Segment { return right(segment.Join(of(3), a)) }, wantRoomy},
		"Join of it and nothing": {func(a, b segment.Segment) segment.Segment { return right(segment.Join(a, of(6))) }, wantRoomy},
		"Slice":                  {func(a, b segment.Segment) segment.Segment { return right(segment.Slice(a, 3, 5)) }, `3 [1:"ab" 2:""]`},
		"whole Slice":            {func(a, b segment.Segment) segment.Segment { return right(segment.Slice(a, 3, 6)) }, wantRoomy},
		"empty Slice":            {func(a, b segment.Segment) segment.Segment { return right(segment.Slice(a, 4, 4)) }, "4 []"},
		"At": {func(a, b segment.Segment) segment.Segment {
			c, _ := segment.At(a, 3)
			return of(3, c)
		}, `3 [1:"ab"]`},
		"Take": {func(a, b segment.Segment) segment.Segment {
			put, err := segment.Put(a)
			if err != nil {
				panic(err)
			}
			s := right(segment.Take(put))
			wipe(put)
			return s
		}, wantRoomy},
	}
}

// P14.1: so it is with bytes.
func TestBytesAreApart(t *testing.T) {
	s := roomy(3)
	was := roomOf(s)
	put, err := segment.Put(s)
	if err != nil {
		t.Fatal(err)
	}
	again, err := segment.Put(s)
	if err != nil {
		t.Fatal(err)
	}
	want := framed(meantText(roomy(3)))
	wipe(again)
	if roomOf(s) != was {
		t.Error(roomOf(s))
	}
	wiped(s)
	if !bytes.Equal(put, want) {
		t.Errorf("%x, want %x", put, want)
	}
}

// P14.1: Take leaves the bytes alone that it is handed, and those behind them.
func TestTakeLeavesItsBytesAlone(t *testing.T) {
	room := append(framed(meantText(roomy(3))), 9, 9, 9)
	was := bytes.Clone(room)
	got, err := segment.Take(room[:len(room)-3])
	if err != nil || !bytes.Equal(room, was) {
		t.Fatal(err, room)
	}
	wiped(got)
	if !bytes.Equal(room, was) {
		t.Error(room)
	}
}
