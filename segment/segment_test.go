package segment_test

import (
	"math"
	"math/rand"
	"slices"
	"testing"

	"holdfast/api"
	"holdfast/cell"
	"holdfast/segment"
)

// goodSegments is segments, no two of them the same.
func goodSegments() []segment.Segment {
	return []segment.Segment{
		{},
		of(1),
		of(127),
		of(128),
		of(addresses - 1),
		of(addresses),
		of(0, empty),
		of(0, hole),
		of(0, trimmed),
		of(0, data("")),
		of(0, data("a")),
		of(0, data("b")),
		of(0, data("ab")),
		of(0, data("\x00")),
		of(0, data(long(most))),
		of(3, hole),
		of(3, hole, hole),
		of(3, hole, trimmed),
		of(3, trimmed, hole),
		of(4, data("ab"), data("a"), empty),
		of(4, empty, data("ab"), data("a")),
		of(300, trimmed, trimmed, empty, hole, data("x"), data("xy"), data(""), data("xy")),
		of(0, many(most-1, hole)...),
		of(0, many(most, hole)...),
		of(0, many(most, data(long(most)))...),
		of(1, many(most, empty)...),
		of(1<<19, full()...),
		of(addresses-1, hole),
		of(addresses-1, data("a")),
		of(addresses-2, hole),
		of(addresses-2, hole, hole),
		of(addresses-most, many(most, trimmed)...),
		of(addresses-most, full()...),
		of(addresses-most, many(most-1, trimmed)...),
		of(addresses-most+1, many(most-1, trimmed)...),
	}
}

type fault struct {
	s    segment.Segment
	want error
}

// wrongSegments is what is no segment, and what is said of it.
func wrongSegments() []fault {
	tooMany, bad := many(most+1, hole), cell.Cell{Kind: 4}
	list := []fault{
		// How many there are.
		{of(0, tooMany...), api.ErrLong},
		{of(0, many(most+2, empty)...), api.ErrLong},
		{of(0, many(2*most, data("a"))...), api.ErrLong},
		{of(0, many(100000, empty)...), api.ErrLong},
		// Where the last one would be.
		{of(addresses, hole), api.ErrRange},
		{of(addresses, empty), api.ErrRange},
		{of(addresses-1, hole, hole), api.ErrRange},
		{of(addresses-1, many(most, hole)...), api.ErrRange},
		{of(addresses-most+1, many(most, hole)...), api.ErrRange},
		{of(addresses-2, data("a"), data("b"), data("c")), api.ErrRange},
		// The first address goes ahead of all, then how many there are, then where the last one would be, then the cells.
		{of(-1, tooMany...), api.ErrRange},
		{of(addresses+1, tooMany...), api.ErrRange},
		{of(addresses, tooMany...), api.ErrLong},
		{of(addresses-1, tooMany...), api.ErrLong},
		{of(0, many(most+1, bad)...), api.ErrLong},
	}
	for _, first := range wrongFirsts() {
		list = append(list, fault{of(first), api.ErrRange}, fault{of(first, hole), api.ErrRange}, fault{of(first, tooMany...), api.ErrRange})
	}
	for _, w := range wrongCells() {
		list = append(list,
			fault{of(0, w.c), w.want},
			fault{of(5, hole, data("a"), w.c), w.want},
			fault{of(5, hole, w.c, data("a")), w.want},
			fault{of(addresses-1, w.c), w.want},
			fault{of(addresses-most, append(many(most-1, hole), w.c)...), w.want},
			fault{of(-1, w.c), api.ErrRange},
			fault{of(addresses, w.c), api.ErrRange},
			fault{of(addresses-1, w.c, w.c), api.ErrRange},
			fault{of(7, append(many(most, hole), w.c)...), api.ErrLong},
		)
		// The first cell's error, whatever those behind it have.
		for _, behind := range wrongCells() {
			list = append(list, fault{of(9, data("a"), w.c, behind.c), w.want})
		}
	}
	return list
}

// anySegments is both, as they are.
func anySegments() []segment.Segment {
	list := goodSegments()
	for _, c := range wrongSegments() {
		list = append(list, c.s)
	}
	return list
}

// P14.1: Check.

func TestCheck(t *testing.T) {
	for _, s := range goodSegments() {
		if err := segment.Check(s); err != nil {
			t.Errorf("%s: %v", show(s), err)
		}
	}
	if err := segment.Check(segment.Segment{First: addresses, Cells: []cell.Cell{}}); err != nil {
		t.Error(err)
	}
	if err := segment.Check(of(0, cell.Cell{Kind: 2, Data: []byte{}})); err != nil {
		t.Error(err)
	}
	for _, c := range wrongSegments() {
		if err := segment.Check(c.s); err != c.want {
			t.Errorf("%s: %v, want %v", show(c.s), err, c.want)
		}
	}
}

// Where it begins and how many cells it has, one by one, around all edges.
func TestCheckOfWhereItBegins(t *testing.T) {
	for size := range most + 3 {
		cells := many(size, hole)
		for first := addresses - most - 3; first <= addresses+3; first++ {
			s := of(first, cells...)
			if err := segment.Check(s); err != plainCheck(s) {
				t.Fatalf("%d cells from %d on: %v, want %v", size, first, err, plainCheck(s))
			}
		}
		for _, first := range append(wrongFirsts(), 0, 1, 2) {
			s := of(first, cells...)
			if err := segment.Check(s); err != plainCheck(s) {
				t.Fatalf("%d cells from %d on: %v, want %v", size, first, err, plainCheck(s))
			}
		}
	}
}

func TestCheckOfAny(t *testing.T) {
	r := rand.New(rand.NewSource(1))
	right := 0
	for range 20000 {
		s := drawAny(r)
		want := plainCheck(s)
		if want == nil {
			right++
		}
		if err := segment.Check(s); err != want {
			t.Fatalf("%s: %v, want %v", show(s), err, want)
		}
		if _, err := segment.Put(s); err != want {
			t.Fatalf("%s: Put: %v, want %v", show(s), err, want)
		}
	}
	if right < 5000 || right > 15000 {
		t.Errorf("%d of 20000 are right", right)
	}
}

// P14.1: End, of whatever segment.

func TestEnd(t *testing.T) {
	for _, c := range []struct {
		s    segment.Segment
		want int
	}{
		{segment.Segment{}, 0},
		{of(7), 7},
		{of(addresses), addresses},
		{of(0, hole), 1},
		{of(3, hole, data("a"), empty, trimmed), 7},
		{of(addresses-1, hole), addresses},
		{of(addresses-most, full()...), addresses},
		{of(5, many(100, hole)...), 105},
		{of(addresses, hole), addresses + 1},
		{of(-3, hole), -2},
		{of(-1, hole), 0},
		{of(2, cell.Cell{Kind: 9}), 3},
		{of(math.MinInt, hole), math.MinInt + 1},
		{of(math.MaxInt), math.MaxInt},
		{of(math.MaxInt-1, hole), math.MaxInt},
		{of(math.MaxInt, hole), math.MinInt},
		{of(math.MaxInt, hole, hole), math.MinInt + 1},
	} {
		if got := segment.End(c.s); got != c.want {
			t.Errorf("%s: %d, want %d", show(c.s), got, c.want)
		}
	}
}

// P14.1: At, of whatever segment.

// isAt asks for a cell, and holds it against what is meant.
func isAt(t *testing.T, s segment.Segment, address int, want cell.Cell, wantThere bool) {
	t.Helper()
	if got, there := segment.At(s, address); showCell(got) != showCell(want) || there != wantThere {
		t.Fatalf("%s at %d: %s, %v, want %s, %v", show(s), address, showCell(got), there, showCell(want), wantThere)
	}
}

func TestAt(t *testing.T) {
	s := of(3, hole, data("ab"), empty, trimmed)
	for address, want := range map[int]cell.Cell{3: hole, 4: data("ab"), 5: empty, 6: trimmed} {
		isAt(t, s, address, want, true)
	}
	for _, address := range []int{2, 7, 0, 1, -1, 8, 1 << 32, 1<<32 + 4, math.MinInt, math.MaxInt} {
		isAt(t, s, address, cell.Cell{}, false)
	}
	for _, s := range anySegments() {
		if len(s.Cells) > 2*most {
			continue
		}
		for i, c := range s.Cells {
			isAt(t, s, s.First+i, c, true)
		}
		for _, back := range []int{1, 2, most, math.MaxInt} {
			isAt(t, s, s.First-back, cell.Cell{}, false)
			isAt(t, s, s.First+len(s.Cells)-1+back, cell.Cell{}, false)
		}
	}
	for _, address := range []int{0, -1, 1, addresses, math.MinInt, math.MaxInt} {
		isAt(t, of(address), address, cell.Cell{}, false)
	}
}

// Numbers wrap around: so do the addresses of what begins near their end.
func TestAtTheEndOfTheNumbers(t *testing.T) {
	s := of(math.MaxInt-1, hole, data("a"), data("b"))
	isAt(t, s, math.MaxInt-2, cell.Cell{}, false)
	isAt(t, s, math.MaxInt-1, hole, true)
	isAt(t, s, math.MaxInt, data("a"), true)
	isAt(t, s, math.MinInt, data("b"), true)
	isAt(t, s, math.MinInt+1, cell.Cell{}, false)
	isAt(t, s, 0, cell.Cell{}, false)
}

// P14.1: Join.

// joins asks for a Join, and holds it against what is meant.
func joins(t *testing.T, a, b, want segment.Segment, wantErr error) {
	t.Helper()
	if got, err := segment.Join(a, b); show(got) != show(want) || err != wantErr {
		t.Fatalf("%s and %s: %s, %v, want %s, %v", show(a), show(b), show(got), err, show(want), wantErr)
	}
}

func TestJoin(t *testing.T) {
	for _, c := range []struct{ a, b, want segment.Segment }{
		{of(0), of(0), of(0)},
		{of(7), of(7), of(7)},
		{of(addresses), of(addresses), of(addresses)},
		{of(3, hole), of(4), of(3, hole)},
		{of(3), of(3, hole), of(3, hole)},
		{of(3, hole), of(4, hole), of(3, hole, hole)},
		{of(3, hole, data("a")), of(5, empty, trimmed, data("ab")), of(3, hole, data("a"), empty, trimmed, data("ab"))},
		{of(addresses-1, hole), of(addresses), of(addresses-1, hole)},
		{of(addresses-2, hole), of(addresses-1, trimmed), of(addresses-2, hole, trimmed)},
		{of(addresses-most, many(most-1, hole)...), of(addresses-1, hole), of(addresses-most, many(most, hole)...)},
		{of(0, full()[:40]...), of(40, full()[40:]...), of(0, full()...)},
		{of(0, full()...), of(most), of(0, full()...)},
		{of(0), of(0, full()...), of(0, full()...)},
	} {
		joins(t, c.a, c.b, c.want, nil)
	}
}

func TestJoinRefuses(t *testing.T) {
	for _, c := range []struct {
		a, b segment.Segment
		want error
	}{
		// One doesn't begin where the other ends.
		{of(0), of(1), api.ErrState},
		{of(1), of(0), api.ErrState},
		{of(3, hole), of(3), api.ErrState},
		{of(3, hole), of(5), api.ErrState},
		{of(3, hole), of(3, hole), api.ErrState},
		{of(3, hole), of(5, hole), api.ErrState},
		{of(4, hole), of(3, hole), api.ErrState},
		{of(0, hole), of(addresses), api.ErrState},
		{of(addresses-1, hole), of(0, hole), api.ErrState},
		{of(0, full()...), of(most-1, full()...), api.ErrState},
		{of(0, full()...), of(most+1, hole), api.ErrState},
		// Both together are too many.
		{of(0, full()...), of(most, hole), api.ErrLong},
		{of(0, hole), of(1, full()...), api.ErrLong},
		{of(0, full()...), of(most, full()...), api.ErrLong},
		{of(0, many(33, hole)...), of(33, many(32, hole)...), api.ErrLong},
		{of(addresses-65, many(33, hole)...), of(addresses-32, many(32, hole)...), api.ErrLong},
	} {
		joins(t, c.a, c.b, segment.Segment{}, c.want)
	}
	// What is no segment: the first one's error, then the second one's, ahead of whether one follows the other.
	for _, c := range wrongSegments() {
		for _, good := range []segment.Segment{of(0), of(0, hole), of(addresses - 1), of(segment.End(c.s))} {
			if plainCheck(good) == nil {
				joins(t, c.s, good, segment.Segment{}, c.want)
				joins(t, good, c.s, segment.Segment{}, c.want)
			}
		}
		joins(t, c.s, of(-1), segment.Segment{}, c.want)
		joins(t, c.s, of(0, many(most+1, hole)...), segment.Segment{}, c.want)
		joins(t, c.s, of(0, cell.Cell{Kind: 2, Data: []byte("a")}), segment.Segment{}, c.want)
	}
}

func TestJoinOfAny(t *testing.T) {
	r := rand.New(rand.NewSource(2))
	right := 0
	for range 20000 {
		a, b := drawAny(r), drawAny(r)
		if r.Intn(8) > 0 {
			b.First = segment.End(a)
		}
		want, err := plainJoin(a, b)
		joins(t, a, b, want, err)
		if err == nil {
			right++
		}
	}
	if right < 4000 || right > 16000 {
		t.Errorf("%d of 20000 are right", right)
	}
}

// P14.1: Slice.

// slicesTo asks for a Slice, and holds it against what is meant.
func slicesTo(t *testing.T, s segment.Segment, from, to int, want segment.Segment, wantErr error) {
	t.Helper()
	if got, err := segment.Slice(s, from, to); show(got) != show(want) || err != wantErr {
		t.Fatalf("%s from %d to %d: %s, %v, want %s, %v", show(s), from, to, show(got), err, show(want), wantErr)
	}
}

func TestSlice(t *testing.T) {
	s := of(3, hole, data("ab"), empty, trimmed)
	for _, c := range []struct {
		from, to int
		want     segment.Segment
	}{
		{3, 7, s},
		{3, 3, of(3)},
		{5, 5, of(5)},
		{7, 7, of(7)},
		{3, 4, of(3, hole)},
		{4, 5, of(4, data("ab"))},
		{6, 7, of(6, trimmed)},
		{4, 6, of(4, data("ab"), empty)},
		{4, 7, of(4, data("ab"), empty, trimmed)},
	} {
		slicesTo(t, s, c.from, c.to, c.want, nil)
	}
	for _, c := range [][2]int{
		{2, 7}, {2, 3}, {2, 2}, {3, 8}, {7, 8}, {8, 8}, {4, 3}, {7, 3}, {7, 6}, {0, 0}, {0, 7}, {-1, 7}, {-1, -1}, {8, 7}, {8, 3}, {3, 2},
		{math.MinInt, 7}, {3, math.MaxInt}, {math.MinInt, math.MaxInt}, {math.MaxInt, math.MinInt}, {math.MaxInt, 7}, {3, math.MinInt}, {1<<32 + 3, 1<<32 + 7},
	} {
		slicesTo(t, s, c[0], c[1], segment.Segment{}, api.ErrRange)
	}
	for _, c := range wrongSegments() {
		for _, r := range [][2]int{{0, 0}, {c.s.First, c.s.First}, {c.s.First, segment.End(c.s)}, {-1, 5}, {5, 4}} {
			slicesTo(t, c.s, r[0], r[1], segment.Segment{}, c.want)
		}
	}
}

// All ends around each segment.
func TestAllSlices(t *testing.T) {
	for _, s := range goodSegments() {
		if len(s.Cells) > 8 {
			continue
		}
		for from := s.First - 2; from <= segment.End(s)+2; from++ {
			for to := s.First - 2; to <= segment.End(s)+2; to++ {
				want, err := plainSlice(s, from, to)
				slicesTo(t, s, from, to, want, err)
			}
		}
	}
}

func TestSliceOfAny(t *testing.T) {
	r := rand.New(rand.NewSource(3))
	right := 0
	for range 20000 {
		s := drawAny(r)
		from := s.First + r.Intn(len(s.Cells)+1) - r.Intn(20)/19
		to := from + r.Intn(s.First+len(s.Cells)-from+1) + r.Intn(20)/19 - r.Intn(20)/19
		want, err := plainSlice(s, from, to)
		slicesTo(t, s, from, to, want, err)
		if err == nil {
			right++
		}
	}
	if right < 5000 || right > 15000 {
		t.Errorf("%d of 20000 are right", right)
	}
}

// P14.1: Same, Copy, of whatever segment.

func TestSame(t *testing.T) {
	list := append(goodSegments(),
		of(-1),
		of(addresses+1),
		of(1<<32),
		of(math.MinInt),
		of(math.MaxInt),
		of(-1, hole),
		of(0, many(most+1, hole)...),
		of(0, cell.Cell{Kind: 4}),
		of(0, cell.Cell{Kind: -1}),
		of(0, cell.Cell{Kind: 2, Data: []byte("a")}),
		of(0, cell.Cell{Kind: 1, Data: make([]byte, 65)}),
		of(addresses, hole),
	)
	for i, a := range list {
		for j, b := range list {
			if got := segment.Same(a, b); got != (i == j) {
				t.Errorf("Same(%s, %s) = %v", show(a), show(b), got)
			}
		}
		if !segment.Same(a, of(a.First, slices.Clone(a.Cells)...)) {
			t.Errorf("%s isn't itself", show(a))
		}
	}
}

// Nil and empty lists mean the same.
func TestNothingIsSame(t *testing.T) {
	bare := cell.Cell{Kind: 1}
	for _, c := range [][2]segment.Segment{
		{of(5), {First: 5, Cells: []cell.Cell{}}},
		{of(5), of(5, hole, hole)},
		{of(5, bare), of(5, data(""))},
		{of(5, hole), of(5, cell.Cell{Kind: 2, Data: []byte{}})},
	} {
		if len(c[0].Cells) == 0 {
			c[1].Cells = c[1].Cells[:0]
		}
		if !segment.Same(c[0], c[1]) || !segment.Same(c[1], c[0]) {
			t.Errorf("%s and %s", show(c[0]), show(c[1]))
		}
		var put [2]string
		for i, s := range c {
			b, err := segment.Put(s)
			if err != nil {
				t.Error(show(s), err)
			}
			put[i] = string(b)
			if got := segment.Copy(s); !segment.Same(got, s) {
				t.Errorf("%s: copy %s", show(s), show(got))
			}
			joins(t, s, of(segment.End(s)), c[0], nil)
			slicesTo(t, s, 5, segment.End(s), c[0], nil)
		}
		if put[0] != put[1] {
			t.Errorf("%x and %x", put[0], put[1])
		}
	}
}

func TestCopy(t *testing.T) {
	for _, s := range anySegments() {
		if got := segment.Copy(s); !segment.Same(got, s) || show(got) != show(s) {
			t.Errorf("%s: copy %s", show(s), show(got))
		}
	}
}

// P14.2: a segment is its parts, joined.

func TestPartsMakeTheWhole(t *testing.T) {
	r := rand.New(rand.NewSource(4))
	list := goodSegments()
	for range 300 {
		list = append(list, draw(r, most))
	}
	for _, s := range list {
		for cut := s.First; cut <= segment.End(s); cut++ {
			a, err := segment.Slice(s, s.First, cut)
			if err != nil {
				t.Fatal(show(s), cut, err)
			}
			b, err := segment.Slice(s, cut, segment.End(s))
			if err != nil {
				t.Fatal(show(s), cut, err)
			}
			joins(t, a, b, s, nil)
		}
	}
}

// One by one, each through its bytes, from the first one on and from the last one on.
func TestCellByCell(t *testing.T) {
	for _, s := range goodSegments() {
		ahead, behind := of(s.First), of(segment.End(s))
		for i := range s.Cells {
			ahead = joined(t, ahead, single(t, s, s.First+i))
			behind = joined(t, single(t, s, segment.End(s)-1-i), behind)
		}
		if show(ahead) != show(s) || show(behind) != show(s) {
			t.Errorf("%s: %s, %s", show(s), show(ahead), show(behind))
		}
	}
}

func joined(t *testing.T, a, b segment.Segment) segment.Segment {
	t.Helper()
	both, err := segment.Join(a, b)
	if err != nil {
		t.Fatal(show(a), show(b), err)
	}
	return both
}

// single is the part of one address, out of its bytes, which must be the cell that is there.
func single(t *testing.T, s segment.Segment, address int) segment.Segment {
	t.Helper()
	part, err := segment.Slice(s, address, address+1)
	if err != nil {
		t.Fatal(show(s), address, err)
	}
	b, err := segment.Put(part)
	if err != nil {
		t.Fatal(show(part), err)
	}
	again, err := segment.Take(b)
	if err != nil || show(again) != show(part) {
		t.Fatal(show(part), show(again), err)
	}
	c, there := segment.At(s, address)
	if !there || show(again) != show(of(address, c)) {
		t.Fatal(show(s), address, show(again))
	}
	return again
}
