package manifest_test

import (
	"bytes"
	"crypto/sha256"
	"math/rand"
	"slices"
	"testing"

	"holdfast/api"
	"holdfast/cell"
	"holdfast/manifest"
	"holdfast/segment"
	"holdfast/sha"
)

// someSegments is segments of one cell at least, no two of them the same.
func someSegments() []segment.Segment {
	long := data(string(bytes.Repeat([]byte("ab"), most/2)))
	return []segment.Segment{
		cellsFrom(0, empty),
		cellsFrom(0, hole),
		cellsFrom(0, trimmed),
		cellsFrom(0, data("")),
		cellsFrom(0, data("a")),
		cellsFrom(3, hole),
		cellsFrom(3, hole, data("ab"), empty, trimmed),
		cellsFrom(4, hole, data("ab"), empty, trimmed),
		cellsFrom(300, long, hole, long),
		cellsFrom(addresses-1, hole),
		cellsFrom(addresses-1, long),
		cellsFrom(addresses-most, slices.Repeat([]cell.Cell{trimmed}, most)...),
		cellsFrom(addresses-most, slices.Repeat([]cell.Cell{hole, long}, most/2)...),
		cellsFrom(7, slices.Repeat([]cell.Cell{data("a"), long}, most/2)...),
		cellsFrom(7, slices.Repeat([]cell.Cell{data("a"), long}, most/2)[1:]...),
	}
}

// bytesOf is a segment's bytes.
func bytesOf(t *testing.T, s segment.Segment) []byte {
	t.Helper()
	b, err := segment.Put(s)
	if err != nil {
		t.Fatal(showSegment(s), err)
	}
	return b
}

// P15.1: Of.

func TestOf(t *testing.T) {
	for _, s := range someSegments() {
		want := bytesOf(t, s)
		wantPart := manifest.Part{First: s.First, Many: len(s.Cells), Size: len(want), Sum: sha256.Sum256(want)}
		if p, b, err := manifest.Of(s); p != wantPart || !bytes.Equal(b, want) || err != nil {
			t.Errorf("%s: %s, %x, %v, want %s, %x", showSegment(s), showPart(p), b, err, showPart(wantPart), want)
		}
	}
}

// The part of the hole at 3, of which segment's chapter tells the bytes.
func TestOfTheHoleAt3(t *testing.T) {
	want := framed("\x03\x01\x01\x02")
	p, b, err := manifest.Of(cellsFrom(3, hole))
	if p != (manifest.Part{First: 3, Many: 1, Size: 9, Sum: sumOf(string(want))}) || !bytes.Equal(b, want) || err != nil {
		t.Error(showPart(p), b, err)
	}
}

func TestOfRefuses(t *testing.T) {
	many := func(n int, c cell.Cell) []cell.Cell { return slices.Repeat([]cell.Cell{c}, n) }
	for _, c := range []struct {
		s    segment.Segment
		want error
	}{
		// Of no cells.
		{segment.Segment{}, api.ErrForm},
		{cellsFrom(5), api.ErrForm},
		{segment.Segment{First: 5, Cells: []cell.Cell{}}, api.ErrForm},
		{cellsFrom(5, many(3, hole)[:0]...), api.ErrForm},
		{cellsFrom(addresses), api.ErrForm},
		// What is no segment: ahead of that.
		{cellsFrom(-1), api.ErrRange},
		{cellsFrom(addresses + 1), api.ErrRange},
		{cellsFrom(1 << 32), api.ErrRange},
		{cellsFrom(-1, hole), api.ErrRange},
		{cellsFrom(addresses, hole), api.ErrRange},
		{cellsFrom(addresses-1, hole, hole), api.ErrRange},
		{cellsFrom(0, many(most+1, hole)...), api.ErrLong},
		{cellsFrom(addresses, many(most+1, hole)...), api.ErrLong},
		{cellsFrom(0, cell.Cell{Kind: 4}), api.ErrRange},
		{cellsFrom(0, hole, cell.Cell{Kind: -1}), api.ErrRange},
		{cellsFrom(0, cell.Cell{Kind: 1, Data: make([]byte, 65)}), api.ErrLong},
		{cellsFrom(0, hole, cell.Cell{Kind: 2, Data: []byte("a")}), api.ErrForm},
	} {
		if p, b, err := manifest.Of(c.s); p != (manifest.Part{}) || len(b) > 0 || err != c.want {
			t.Errorf("%s: %s, %x, %v, want %v", showSegment(c.s), showPart(p), b, err, c.want)
		}
	}
}

// holds asks for a Holds, and holds it against what is meant.
func holds(t *testing.T, p manifest.Part, b []byte, want string, wantErr error) {
	t.Helper()
	if got, err := manifest.Holds(p, b); showSegment(got) != want || err != wantErr {
		t.Fatalf("%s of %.300x: %.300s, %v, want %.300s, %v", showPart(p), b, showSegment(got), err, want, wantErr)
	}
}

// P15.2: what a part was made of holds it; nothing else does.
func TestHolds(t *testing.T) {
	list := someSegments()
	for i, s := range list {
		p, b, err := manifest.Of(s)
		if err != nil {
			t.Fatal(showSegment(s), err)
		}
		holds(t, p, b, showSegment(s), nil)
		for j, other := range list {
			if j != i {
				holds(t, p, bytesOf(t, other), noSegment, api.ErrSum)
			}
		}
	}
	r := rand.New(rand.NewSource(5))
	for range 3000 {
		s := drawSegment(r)
		p, b, err := manifest.Of(s)
		if err != nil || !bytes.Equal(b, bytesOf(t, s)) {
			t.Fatal(showSegment(s), err)
		}
		holds(t, p, b, showSegment(s), nil)
		if err := manifest.Check(manifest.Manifest{From: p.First, To: p.First + p.Many, Parts: []manifest.Part{p}}); err != nil {
			t.Fatal(showPart(p), err)
		}
	}
}

// P15.1: each bit of the bytes counts, and how many there are.
func TestHoldsOfSpoiltBytes(t *testing.T) {
	p, b, err := manifest.Of(cellsFrom(300, hole, data("ab"), data("ac"), trimmed))
	if err != nil {
		t.Fatal(err)
	}
	for i := range 8 * len(b) {
		turned := bytes.Clone(b)
		turned[i/8] ^= 1 << (i % 8)
		holds(t, p, turned, noSegment, api.ErrSum)
	}
	for cut := range len(b) {
		holds(t, p, b[:cut], noSegment, api.ErrSum)
	}
	holds(t, p, nil, noSegment, api.ErrSum)
	holds(t, p, append(bytes.Clone(b), 0), noSegment, api.ErrSum)
	holds(t, p, append(bytes.Clone(b), b...), noSegment, api.ErrSum)
	holds(t, p, make([]byte, 1<<20), noSegment, api.ErrSum)
}

// P15.1: each of a part's numbers counts, and each byte of its digest.
func TestHoldsOfAnotherPart(t *testing.T) {
	s := cellsFrom(300, hole, data("ab"), data("ac"), trimmed)
	right, b, err := manifest.Of(s)
	if err != nil {
		t.Fatal(err)
	}
	for _, off := range []int{-1, 1, 64, 1 << 32, -1 << 63} {
		first, many, size := right, right, right
		first.First += off
		many.Many += off
		size.Size += off
		holds(t, first, b, noSegment, api.ErrForm)
		holds(t, many, b, noSegment, api.ErrForm)
		holds(t, size, b, noSegment, api.ErrSum)
		// What is wrong with the bytes goes ahead.
		first.Size++
		many.Sum[3]++
		holds(t, first, b, noSegment, api.ErrSum)
		holds(t, many, b, noSegment, api.ErrSum)
	}
	for i := range right.Sum {
		sum := right
		sum.Sum[i] ^= 1
		holds(t, sum, b, noSegment, api.ErrSum)
	}
	holds(t, manifest.Part{}, b, noSegment, api.ErrSum)
	holds(t, manifest.Part{}, nil, noSegment, api.ErrSum)
	holds(t, right, b, showSegment(s), nil)
}

// P15.1: bytes that are as told, and no segment: Take's error, ahead of where the part begins and how many cells it has.
func TestHoldsOfNoSegment(t *testing.T) {
	good := framed("\x03\x02\x02\x02")
	turned := bytes.Clone(good)
	turned[len(turned)-1] ^= 1
	for _, c := range []struct {
		b    []byte
		want error
	}{
		{nil, api.ErrForm},
		{[]byte{}, api.ErrForm},
		{[]byte("\x80"), api.ErrForm},
		{good[:len(good)-1], api.ErrForm},
		{append(bytes.Clone(good), 0), api.ErrForm},
		{turned, api.ErrSum},
		{[]byte(number(longest + 1)), api.ErrLong},
		{framed(""), api.ErrForm},
		{framed("\x03\x02\x02\x02\x00"), api.ErrForm},
		{framed("\x03\x41\x41\x02"), api.ErrLong},
		{framed("\x03\x02\x02\x04"), api.ErrRange},
		{framed(number(addresses+1) + "\x02\x02\x02"), api.ErrRange},
		{framed(number(addresses) + "\x02\x02\x02"), api.ErrRange},
	} {
		for _, p := range []manifest.Part{{First: 3, Many: 2}, {}, {First: 9, Many: 1}, {First: -1, Many: -1}} {
			p.Size, p.Sum = len(c.b), sha.Digest(sha256.Sum256(c.b))
			holds(t, p, c.b, noSegment, c.want)
		}
	}
	holds(t, manifest.Part{First: 3, Many: 2, Size: len(good), Sum: sumOf(string(good))}, good, showSegment(cellsFrom(3, hole, hole)), nil)
}

// P15.1: Holds doesn't ask whether there is such a part: a segment of no cells has no part, but bytes.
func TestHoldsOfNoCells(t *testing.T) {
	b := bytesOf(t, cellsFrom(5))
	p := manifest.Part{First: 5, Size: len(b), Sum: sumOf(string(b))}
	holds(t, p, b, showSegment(cellsFrom(5)), nil)
	p.Many = 1
	holds(t, p, b, noSegment, api.ErrForm)
	p.Many, p.First = 0, 6
	holds(t, p, b, noSegment, api.ErrForm)
}
