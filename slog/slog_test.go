package slog_test

import (
	"fmt"
	"math"
	"slices"
	"strings"
	"testing"

	"holdfast/api"
	"holdfast/cell"
	"holdfast/disk"
	"holdfast/proj"
	"holdfast/record"
	"holdfast/slog"
	"holdfast/unit"
)

const room = 1 << 16

func long(n int) string { return strings.Repeat("x", n) }

// noUnits is numbers of which a cluster of three units has no unit.
func noUnits() []int { return []int{-1, 3, 4, 7, 8, math.MinInt, math.MaxInt, 1 << 32} }

// noAddresses is numbers that are neither an address, nor that behind the last one.
func noAddresses() []int {
	return []int{-1, -2, addresses + 1, addresses + 2, math.MinInt, math.MaxInt, 1 << 32}
}

// The chapter's example.
func TestExample(t *testing.T) {
	c, err := slog.New(1, room, [][]int{{0}})
	if err != nil {
		t.Fatal(err)
	}
	if n, err := c.Append([]byte("a")); n != 0 || err != nil {
		t.Error(n, err)
	}
	if x, err := c.Read(0); x.Kind != cell.Data || string(x.Data) != "a" || err != nil {
		t.Error(x, err)
	}
}

// P13.1: New.

func TestNew(t *testing.T) {
	for units := 1; units <= 8; units++ {
		x := begin(t, units, room, chain(units-1))
		x.is(1, chain(units-1))
		x.tail(0)
		for u := range 9 {
			there := u < units
			if x.c.Able(u) != there || (x.c.Unit(u) != nil) != there || (x.c.Disk(u) != nil) != there {
				t.Error(units, u)
			}
		}
		for u := range units {
			x.has(u, "1 from 0:")
		}
	}
	begin(t, 8, room, chain(0, 2, 4, 6), chain(7, 5, 3, 1))
	begin(t, 8, room, chain(1), chain(0), chain(3), chain(2))
}

func TestNewRefuses(t *testing.T) {
	one := [][]int{{0}}
	for i, x := range []struct {
		units, room int
		chains      [][]int
		want        error
	}{
		{0, room, one, api.ErrRange}, {-1, room, one, api.ErrRange}, {9, room, one, api.ErrRange},
		{math.MinInt, room, one, api.ErrRange}, {math.MaxInt, room, one, api.ErrRange},
		{1, -1, one, api.ErrRange}, {1, 1<<30 + 1, one, api.ErrRange}, {1, math.MinInt, one, api.ErrRange}, {1, math.MaxInt, one, api.ErrRange},
		{1, room, nil, api.ErrForm}, {1, room, [][]int{{}}, api.ErrForm}, {1, room, [][]int{{0}, nil}, api.ErrForm},
		{8, room, [][]int{{0}, {1}, {2}, {3}, {4}}, api.ErrForm}, {8, room, [][]int{{0, 1, 2, 3, 4}}, api.ErrForm},
		{8, room, [][]int{{0, 1}, {1}}, api.ErrForm}, {8, room, [][]int{{0, 0}}, api.ErrForm},
		{8, room, [][]int{{8}}, api.ErrRange}, {8, room, [][]int{{-1}}, api.ErrRange},
		{1, room, [][]int{{1}}, api.ErrRange}, {3, room, [][]int{{0, 1}, {3}}, api.ErrRange}, {7, room, [][]int{{0, 7}}, api.ErrRange},
		// the first one that is named
		{0, -1, nil, api.ErrRange}, {9, room, nil, api.ErrRange}, {0, 0, one, api.ErrRange},
		{1, -1, nil, api.ErrForm}, {1, 0, [][]int{{1, 1}}, api.ErrForm}, {1, 0, [][]int{{1}}, api.ErrRange},
		// an act's bytes are 7, and are put in a file beside
		{1, 0, one, api.ErrFull}, {2, 6, one, api.ErrFull}, {2, 7, one, nil}, {1, 1 << 30, one, nil},
	} {
		c, err := slog.New(x.units, x.room, x.chains)
		if err != x.want || (c == nil) != (err != nil) {
			t.Error(i, c, err)
		}
		if p, err := plainNew(x.units, x.room, x.chains); err != x.want || (p == nil) != (err != nil) {
			t.Error(i, "the plain one", err)
		}
	}
}

// The chains that are handed in aren't kept, nor are those handed out.
func TestProjectionIsApart(t *testing.T) {
	chains := [][]int{{0, 1}, {2}}
	c, err := slog.New(3, room, chains)
	if err != nil {
		t.Fatal(err)
	}
	chains[0][0], chains[1] = 2, chain(0)
	p := c.Projection()
	p.Chains[0][1], p.Chains[1], p.Epoch = 7, nil, 9
	if p := c.Projection(); !proj.Same(p, proj.Projection{Epoch: 1, Chains: [][]int{{0, 1}, {2}}}) {
		t.Error(p)
	}
	spares := []int{2, 0}
	c.Kill(1)
	if err := c.Rebuild(spares...); err != nil || !slices.Equal(spares, chain(2, 0)) {
		t.Error(err, spares)
	}
	c.Projection().Chains[0][0] = 5
	if p := c.Projection(); !proj.Same(p, proj.Projection{Epoch: 2, Chains: [][]int{{0}, {2}}}) {
		t.Error(p)
	}
}

// P13.1: Append.

func TestAppend(t *testing.T) {
	x := begin(t, 4, room, chain(2, 1), chain(3))
	x.appends(0, "a", "b", "", long(64), "e")
	x.tail(5)
	even := fmt.Sprintf(`1 from 0: 0=data:"a" 2=data:"" 4=data:"e"`)
	x.has(0, "1 from 0:")
	x.has(1, even)
	x.has(2, even)
	x.has(3, fmt.Sprintf(`1 from 0: 1=data:"b" 3=data:%q`, long(64)))
	text := []byte("f")
	if n, err := x.c.Append(text); n != 5 || err != nil {
		t.Error(n, err)
	}
	text[0] = 'g'
	x.reads(5, `data:"f"`)
}

func TestAppendLong(t *testing.T) {
	x := begin(t, 1, room, chain(0))
	x.kill(0)
	for _, n := range []int{65, 66, 1 << 17} {
		if n, err := x.append(long(n)); n != 0 || err != api.ErrLong {
			t.Error(n, err)
		}
	}
	x.tail(0)
}

// An address that was taken stays so, whatever comes of it; what the first units have of it, they have.
func TestAppendFails(t *testing.T) {
	x := begin(t, 3, room, chain(0, 1, 2))
	x.kill(1)
	for i := range 3 {
		if n, err := x.append("a"); n != 0 || err != api.ErrDown {
			t.Error(n, err)
		}
		x.tail(i + 1)
	}
	x.has(0, `1 from 0: 0=data:"a" 1=data:"a" 2=data:"a"`)
	x.has(2, "1 from 0:")
	x.reads(1, `empty:""`)
	x.start(1)
	x.appends(3, "b")
	x.kill(0)
	if _, err := x.append("c"); err != api.ErrDown {
		t.Error(err)
	}
	x.has(1, `1 from 0: 3=data:"b"`)
}

// Where the first unit has something at an address, another one is taken.
func TestAppendPassesOver(t *testing.T) {
	x := begin(t, 3, room, chain(0, 1), chain(2))
	x.kill(1)
	x.wants(api.ErrDown, x.put(0, data("a")))
	x.wants(api.ErrDown, x.put(2, hole()))
	x.wants(api.ErrDown, x.put(6, data("x")))
	x.start(1)
	x.tail(0)
	x.appends(1, "x")
	x.appends(3, "x", "x", "x")
	x.appends(7, "x")
	// trimmed below 11 in unit 0 alone
	x.kill(1)
	x.wants(api.ErrDown, x.trim(11))
	x.start(1)
	x.appends(9, "y")
	x.appends(11, "z")
	x.tail(12)
}

// It is the first unit alone that passes an address over; and what is there already, be it the same, is an error.
func TestAppendSecondUnitHas(t *testing.T) {
	for _, text := range []string{"a", "b"} {
		x := begin(t, 2, room, chain(0, 1))
		has, _ := unit.Of(1, 1, []unit.Entry{{Address: 1, Cell: data("a")}})
		x.lay(1, has)
		if n, err := x.append(text); n != 0 || err != api.ErrTrimmed {
			t.Error(n, err)
		}
		if n, err := x.append(text); n != 0 || err != api.ErrWritten {
			t.Error(n, err)
		}
		x.has(0, fmt.Sprintf("1 from 0: 0=data:%q 1=data:%q", text, text))
		x.has(1, `1 from 1: 1=data:"a"`)
		x.appends(2, text)
	}
}

func TestAppendFull(t *testing.T) {
	x := begin(t, 1, room, chain(0))
	x.wants(nil, x.put(addresses-2, data("a")))
	x.appends(addresses-1, "b")
	for range 2 {
		if n, err := x.append("c"); n != 0 || err != api.ErrFull {
			t.Error(n, err)
		}
	}
	x.tail(addresses)
	x.reads(addresses-1, `data:"b"`)
	// all addresses there are, and each is passed over
	x = begin(t, 2, room, chain(0, 1))
	x.kill(1)
	x.wants(api.ErrDown, x.trim(addresses))
	x.tail(0)
	if n, err := x.append("c"); n != 0 || err != api.ErrFull {
		t.Error(n, err)
	}
	x.tail(addresses)
}

// A disk without room is no reason to think the unit broken.
func TestAppendNoRoom(t *testing.T) {
	x := begin(t, 2, 60, chain(0, 1))
	x.appends(0, "a", "b", "c")
	n, err := x.append(long(64))
	if n != 0 || err != api.ErrFull || !x.c.Able(0) {
		t.Error(n, err)
	}
	x.appends(4, "e")
}

// P13.1: Read.

func TestReadAsksTheLastUnit(t *testing.T) {
	x := begin(t, 3, room, chain(1, 0), chain(2))
	x.appends(0, "a", "b")
	x.wants(nil, x.fill(2))
	x.kill(0)
	x.wants(api.ErrDown, x.put(4, data("x")))
	x.reads(0, "down")
	x.reads(1, `data:"b"`)
	x.start(0)
	x.kill(1)
	x.reads(0, `data:"a"`)
	x.reads(2, `hole:""`)
	x.reads(4, `empty:""`)
	x.reads(addresses-2, `empty:""`)
	x.kill(0)
	x.kill(2)
	for _, address := range append(noAddresses(), addresses) {
		x.reads(address, "range")
	}
}

func TestReadIsApart(t *testing.T) {
	x := begin(t, 1, room, chain(0))
	x.appends(0, "a")
	c, _ := x.c.Read(0)
	c.Data[0] = 'x'
	x.reads(0, `data:"a"`)
}

// P13.1: Fill.

func TestFill(t *testing.T) {
	x := begin(t, 2, room, chain(1, 0))
	x.wants(nil, x.fill(2))
	x.tail(3)
	x.wants(nil, x.fill(2))
	x.wants(nil, x.fill(0))
	x.tail(3)
	x.appends(3, "a")
	x.wants(api.ErrWritten, x.fill(3))
	x.wants(nil, x.trim(1))
	x.wants(api.ErrTrimmed, x.fill(0))
	x.wants(nil, x.fill(addresses-1))
	x.tail(addresses)
	for u := range 2 {
		x.has(u, fmt.Sprintf(`1 from 1: 2=hole:"" 3=data:"a" %d=hole:""`, addresses-1))
	}
	x.kill(0)
	x.kill(1)
	for _, address := range append(noAddresses(), addresses) {
		x.wants(api.ErrRange, x.fill(address))
	}
}

// The document's example: chain 0 1, unit 1 off: Append is ErrDown; unit 1 comes again: Fill ends it, ErrWritten.
func TestFillEnds(t *testing.T) {
	x := begin(t, 3, room, chain(0, 1, 2))
	x.kill(1)
	if _, err := x.append("a"); err != api.ErrDown {
		t.Error(err)
	}
	x.wants(api.ErrDown, x.put(5, data("b")))
	x.wants(api.ErrDown, x.fill(0))
	x.wants(api.ErrDown, x.fill(7))
	x.start(1)
	x.reads(0, `empty:""`)
	x.wants(api.ErrWritten, x.fill(0))
	x.reads(0, `data:"a"`)
	x.tail(1)
	x.wants(api.ErrWritten, x.fill(5))
	x.reads(5, `data:"b"`)
	x.tail(6)
	x.wants(nil, x.fill(7)) // unit 0 has a hole there: all have it now
	x.tail(8)
	for u := range 3 {
		x.has(u, `1 from 0: 0=data:"a" 5=data:"b" 7=hole:""`)
	}
}

// What the first unit says goes; an error of the others is the answer, and what was done ahead of it stays.
func TestFillFails(t *testing.T) {
	x := begin(t, 4, room, chain(0, 1, 2, 3))
	has := func(u, low int, c cell.Cell) {
		as, err := unit.Of(1, low, []unit.Entry{{Address: 3, Cell: c}})
		if err != nil {
			t.Fatal(err)
		}
		x.lay(u, as)
	}
	has(0, 0, data("a"))
	has(2, 0, data("b"))
	x.wants(api.ErrWritten, x.fill(3))
	x.tail(0) // not raised: this ErrWritten is unit 2's
	x.has(1, `1 from 0: 3=data:"a"`)
	x.has(3, "1 from 0:")
	has(2, 0, hole())
	x.wants(api.ErrWritten, x.fill(3))
	x.tail(0)
	x.lay(2, unitAt(t, 1, 4))
	x.wants(api.ErrTrimmed, x.fill(3))
	has(0, 0, hole()) // of a hole all are filled, and here unit 1 has data
	x.wants(api.ErrWritten, x.fill(3))
	x.tail(0)
	x.lay(0, unitAt(t, 1, 4))
	x.wants(api.ErrTrimmed, x.fill(3))
	x.wants(api.ErrTrimmed, x.fill(0))
	x.lay(0, unitAt(t, 2, 0))
	x.wants(api.ErrSealed, x.fill(5))
	x.lay(0, unitAt(t, 0, 0))
	x.wants(api.ErrEpoch, x.fill(5))
	x.tail(0)
}

// unitAt is a unit of an epoch, with a low mark.
func unitAt(t *testing.T, epoch, low int) *unit.Unit {
	t.Helper()
	u, err := unit.Of(epoch, low, nil)
	if err != nil {
		t.Fatal(err)
	}
	return u
}

// P13.1: Put.

func TestPut(t *testing.T) {
	x := begin(t, 3, room, chain(0, 1), chain(2))
	text := []byte("ab")
	c := cell.Cell{Kind: cell.Data, Data: text}
	x.wants(nil, x.put(2, c))
	text[0] = 'x'
	x.reads(2, `data:"ab"`)
	x.tail(3)
	x.wants(nil, x.put(2, data("ab")))
	x.wants(api.ErrWritten, x.put(2, data("a")))
	x.wants(api.ErrWritten, x.put(2, data("")))
	x.wants(api.ErrWritten, x.put(2, hole()))
	x.wants(nil, x.put(0, hole()))
	x.wants(nil, x.put(0, hole()))
	x.wants(api.ErrWritten, x.put(0, data("")))
	x.wants(nil, x.put(4, data("")))
	x.wants(nil, x.put(4, data("")))
	x.wants(nil, x.put(5, data(long(64))))
	x.wants(nil, x.trim(1))
	x.wants(api.ErrTrimmed, x.put(0, hole()))
	x.wants(api.ErrTrimmed, x.put(0, data("a")))
	x.tail(6)
	x.wants(nil, x.put(addresses-1, hole()))
	x.tail(addresses)
	x.has(0, `1 from 1: 2=data:"ab" 4=data:""`)
	x.has(1, `1 from 1: 2=data:"ab" 4=data:""`)
	x.has(2, fmt.Sprintf(`1 from 1: 5=data:%q %d=hole:""`, long(64), addresses-1))
}

func TestPutRefuses(t *testing.T) {
	x := begin(t, 1, room, chain(0))
	x.kill(0)
	for _, address := range append(noAddresses(), addresses) {
		x.wants(api.ErrRange, x.put(address, data("a")))
		x.wants(api.ErrRange, x.put(address, cell.Cell{Kind: 9, Data: []byte(long(65))}))
	}
	for want, list := range map[error][]cell.Cell{
		api.ErrRange: {{Kind: -1}, {Kind: 4}, {Kind: 4, Data: []byte(long(65))}, {Kind: math.MinInt}},
		api.ErrLong:  {data(long(65)), {Kind: cell.Hole, Data: []byte(long(65))}, {Data: []byte(long(65))}},
		api.ErrForm:  {{}, {Kind: cell.Trimmed}, {Kind: cell.Hole, Data: []byte("a")}, {Data: []byte("a")}, {Kind: cell.Trimmed, Data: []byte("a")}},
		api.ErrDown:  {data("a"), hole()},
	} {
		for _, c := range list {
			x.wants(want, x.put(0, c))
		}
	}
	x.tail(0)
}

// Where a unit ahead has it, it goes on with those behind.
func TestPutGoesOn(t *testing.T) {
	x := begin(t, 3, room, chain(2, 1, 0))
	x.kill(1)
	x.wants(api.ErrDown, x.put(3, data("a")))
	x.wants(api.ErrDown, x.put(4, hole()))
	x.start(1)
	x.tail(0)
	x.wants(api.ErrWritten, x.put(3, data("b")))
	x.wants(nil, x.put(3, data("a")))
	x.wants(nil, x.put(4, hole()))
	x.tail(5)
	for u := range 3 {
		x.has(u, `1 from 0: 3=data:"a" 4=hole:""`)
	}
}

// What a unit without power has is there; it is only what isn't there that it can't write.
func TestPutWithoutPower(t *testing.T) {
	x := begin(t, 1, room, chain(0))
	x.appends(0, "a")
	x.both(0, func(d *disk.Disk) { d.Cut() })
	x.reads(0, "down")
	x.wants(nil, x.put(0, data("a")))
	x.wants(api.ErrWritten, x.put(0, data("b")))
	x.wants(api.ErrDown, x.put(1, data("a")))
	x.wants(api.ErrDown, x.put(0, data("a"))) // it is broken now
}

// P13.1: Trim.

func TestTrim(t *testing.T) {
	x := begin(t, 4, room, chain(2), chain(0, 1))
	x.appends(0, "a", "b", "c", "d")
	x.wants(nil, x.trim(2))
	x.wants(nil, x.trim(1))
	x.wants(nil, x.trim(0))
	x.tail(4)
	x.has(0, `1 from 2: 3=data:"d"`)
	x.has(1, `1 from 2: 3=data:"d"`)
	x.has(2, `1 from 2: 2=data:"c"`)
	x.has(3, "1 from 0:") // of no chain
	x.reads(1, `trimmed:""`)
	x.wants(nil, x.trim(7))
	x.tail(7)
	x.appends(7, "e")
	x.wants(nil, x.trim(addresses))
	x.tail(addresses)
	x.reads(addresses-1, `trimmed:""`)
	x.kill(0)
	for _, below := range noAddresses() {
		x.wants(api.ErrRange, x.trim(below))
	}
	x.wants(api.ErrDown, x.trim(0))
}

// By their numbers, not as they stand in the chains.
func TestTrimByNumbers(t *testing.T) {
	x := begin(t, 3, room, chain(2), chain(1, 0))
	x.kill(1)
	x.wants(api.ErrDown, x.trim(3))
	x.has(0, "1 from 3:")
	x.has(2, "1 from 0:")
	x.tail(0)
}

// P13.1: Tail. (It asks the sequencer alone.)

func TestTail(t *testing.T) {
	x := begin(t, 1, room, chain(0))
	x.appends(0, "a")
	x.kill(0)
	x.tail(1)
}

// P13.1: Cut.

func TestCut(t *testing.T) {
	x := begin(t, 4, room, chain(2), chain(0, 1))
	x.appends(0, "a", "b", "c", "d", "e")
	x.wants(nil, x.trim(1))
	x.wants(nil, x.cut(3))
	x.is(2, chain(2), chain(0, 1))
	x.tail(3)
	x.has(0, `2 from 1: 1=data:"b"`)
	x.has(1, `2 from 1: 1=data:"b"`)
	x.has(2, `2 from 1: 2=data:"c"`)
	x.has(3, "1 from 0:") // of no chain
	x.appends(3, "x")
	x.wants(api.ErrTrimmed, x.cut(0))
	x.is(2, chain(2), chain(0, 1))
	x.wants(nil, x.cut(1))
	x.tail(1)
	x.has(0, "3 from 1:")
	x.wants(nil, x.cut(9)) // the tail may rise
	x.tail(9)
	x.appends(9, "y")
	x.wants(nil, x.cut(addresses))
	x.tail(addresses)
	x.is(5, chain(2), chain(0, 1))
	x.reads(9, `data:"y"`)
}

func TestCutRefuses(t *testing.T) {
	x := begin(t, 3, room, chain(0, 1))
	x.appends(0, "a", "b")
	x.wants(nil, x.trim(1))
	x.kill(2) // of no chain
	x.wants(api.ErrTrimmed, x.cut(0))
	x.kill(1)
	for _, from := range noAddresses() {
		x.wants(api.ErrRange, x.cut(from))
	}
	x.wants(api.ErrDown, x.cut(0))
	x.wants(api.ErrDown, x.cut(1))
	x.has(0, `1 from 1: 1=data:"b"`)
	x.start(1)
	x.wants(nil, x.cut(1))
	// one of them is trimmed farther
	x.kill(1)
	x.wants(api.ErrDown, x.trim(3))
	x.start(1)
	x.wants(api.ErrTrimmed, x.cut(2))
	x.wants(nil, x.cut(3))
	x.is(3, chain(0, 1))
	x.both(0, func(d *disk.Disk) { d.Cut() })
	x.wants(api.ErrDown, x.cut(3))
	x.both(0, func(d *disk.Disk) { d.Start() })
	x.fuse(0, 0)
	x.append("a") // it is broken
	x.both(0, func(d *disk.Disk) { d.Start() })
	x.wants(api.ErrDown, x.cut(5))
}

// Unit by unit: those ahead of the one that fails were sealed and cut, and it may be sealed alone.
func TestCutFails(t *testing.T) {
	for fuse, want := range map[int]string{0: "1 from 0:", 3: "1 from 0:", 4: "2 from 0:", 7: "2 from 0:"} {
		x := begin(t, 3, room, chain(2, 1, 0))
		x.appends(0, "a", "b")
		x.fuse(1, fuse)
		x.wants(api.ErrDown, x.cut(1))
		x.has(0, `2 from 0: 0=data:"a"`)
		x.has(1, want+` 0=data:"a" 1=data:"b"`)
		x.has(2, `1 from 0: 0=data:"a" 1=data:"b"`)
		x.is(1, chain(2, 1, 0))
		x.tail(2)
		x.reads(0, "sealed")
		x.kill(1)
		x.start(1)
		x.wants(nil, x.cut(1)) // 1 more than the greatest epoch
		x.is(3, chain(2, 1, 0))
		for u := range 3 {
			x.has(u, `3 from 0: 0=data:"a"`)
		}
	}
}

// P13.1: the last epoch.
func TestLastEpoch(t *testing.T) {
	for _, call := range []string{"Cut", "Rebuild"} {
		x := begin(t, 3, room, chain(0, 1))
		raise := func() error {
			if call == "Cut" {
				return x.cut(0)
			}
			return x.rebuild()
		}
		x.lay(2, unitAt(t, epochs, 0)) // able, and of no chain
		want := map[string]error{"Cut": nil, "Rebuild": api.ErrFull}[call]
		x.wants(want, raise())
		x.kill(2)
		x.lay(1, unitAt(t, epochs, 0))
		x.wants(api.ErrFull, raise())
		x.lay(1, unitAt(t, epochs-1, 0))
		x.wants(nil, raise())
		x.is(epochs, chain(0, 1))
		x.appends(0, "a")
		x.wants(api.ErrFull, raise())
		x.wants(api.ErrFull, x.cut(0))
		x.wants(api.ErrFull, x.rebuild(2))
		// what is named ahead of that, and behind
		x.wants(api.ErrRange, x.cut(-1))
		x.wants(api.ErrRange, x.rebuild(3))
		x.wants(nil, x.trim(1))
		x.wants(api.ErrTrimmed, x.cut(0))
		x.kill(0)
		x.wants(api.ErrDown, x.cut(0))
		x.kill(1)
		x.wants(api.ErrFull, x.rebuild()) // ahead of ErrState
	}
}

// P13.1: Kill, Start, Fuse, Compact.

func TestKillAndStart(t *testing.T) {
	x := begin(t, 3, room, chain(0, 1))
	x.appends(0, "a")
	x.wants(api.ErrState, x.start(0))
	x.wants(api.ErrState, x.start(2))
	x.wants(nil, x.kill(0))
	if x.c.Able(0) || x.c.Unit(0) != nil || !x.c.Disk(0).Down() {
		t.Error(show(x.c))
	}
	x.wants(nil, x.kill(0))
	x.wants(nil, x.start(0))
	x.wants(api.ErrState, x.start(0))
	x.has(0, `1 from 0: 0=data:"a"`)
	for _, u := range noUnits() {
		x.wants(api.ErrRange, x.kill(u))
		x.wants(api.ErrRange, x.kill(u, true))
		x.wants(api.ErrRange, x.start(u))
		x.wants(api.ErrRange, x.fuse(u, 1))
		x.wants(api.ErrRange, x.fuse(u, -1))
		x.wants(api.ErrRange, x.compact(u))
		if x.c.Able(u) || x.c.Unit(u) != nil || x.c.Disk(u) != nil {
			t.Error(u)
		}
	}
}

// What isn't sure when the power goes is kept as it is picked.
func TestKillKeeps(t *testing.T) {
	for _, kept := range []bool{false, true} {
		x := begin(t, 1, room, chain(0))
		x.fuse(0, 3)
		if _, err := x.append("a"); err != api.ErrDown || x.c.Able(0) {
			t.Error(err)
		}
		x.wants(api.ErrState, x.start(0)) // it is on, and broken
		x.kill(0, kept, true)
		x.wants(nil, x.start(0))
		x.reads(0, map[bool]string{true: `data:"a"`, false: `empty:""`}[kept])
		x.appends(1, "b")
	}
}

// A unit whose shelf can't be opened stays off.
func TestStartFails(t *testing.T) {
	x := begin(t, 2, room, chain(0))
	x.appends(0, "a")
	x.kill(0)
	x.both(0, func(d *disk.Disk) {
		d.Start()
		d.Write("r00000002", []byte("no act"))
		d.Sync()
		d.Cut()
	})
	for range 2 {
		x.wants(api.ErrForm, x.start(0))
		if x.c.Able(0) || x.c.Disk(0).Down() || x.c.Unit(0) != nil {
			t.Error(show(x.c))
		}
		x.reads(0, "down")
	}
	x.both(0, func(d *disk.Disk) { d.Remove("r00000002") })
	x.wants(nil, x.start(0))
	x.reads(0, `data:"a"`)
}

func TestAble(t *testing.T) {
	x := begin(t, 1, room, chain(0))
	able := func(want bool) {
		t.Helper()
		if x.c.Able(0) != want {
			t.Error("not", want)
		}
	}
	able(true)
	x.both(0, func(d *disk.Disk) { d.Cut() })
	able(false)
	x.both(0, func(d *disk.Disk) { d.Start() })
	able(true)
	x.fuse(0, 0)
	able(true)
	x.append("a")
	able(false)
	x.both(0, func(d *disk.Disk) { d.Start() })
	able(false) // the shelf is broken
	x.kill(0)
	x.both(0, func(d *disk.Disk) { d.Start() })
	able(false) // it is off
	x.start(0)
	able(true)
}

func TestFuse(t *testing.T) {
	x := begin(t, 2, room, chain(0, 1))
	for _, n := range []int{-1, math.MinInt} {
		x.wants(api.ErrRange, x.fuse(1, n))
	}
	x.wants(nil, x.fuse(1, 4))
	x.appends(0, "a")
	if _, err := x.append("b"); err != api.ErrDown {
		t.Error(err)
	}
	x.has(0, `1 from 0: 0=data:"a" 1=data:"b"`)
	x.kill(1)
	x.wants(nil, x.fuse(1, 0))
	x.wants(nil, x.start(1)) // no fuse outlives a start
	x.appends(2, "c")
}

func TestCompact(t *testing.T) {
	x := begin(t, 2, room, chain(0))
	x.appends(0, "a", "b")
	x.wants(nil, x.compact(0))
	if names, err := x.c.Disk(0).List(); !slices.Equal(names, []string{"b00000003"}) || err != nil {
		t.Error(names, err)
	}
	x.appends(2, "c")
	x.kill(0)
	x.wants(api.ErrDown, x.compact(0))
	x.start(0)
	x.has(0, `1 from 0: 0=data:"a" 1=data:"b" 2=data:"c"`)
	x.fuse(0, 4)
	x.wants(api.ErrDown, x.compact(0))
	x.wants(api.ErrDown, x.compact(0))
	x.kill(0)
	x.start(0)
	x.reads(2, `data:"c"`)
	small := begin(t, 1, 16, chain(0))
	small.appends(0, "")
	small.wants(api.ErrFull, small.compact(0))
}

// P13.1: Unit, Disk.

func TestUnitAndDisk(t *testing.T) {
	x := begin(t, 2, room, chain(0))
	x.appends(0, "a")
	u := x.c.Unit(0)
	if _, err := u.Seal(9); err != nil {
		t.Error(err)
	}
	x.has(0, `1 from 0: 0=data:"a"`)
	x.appends(1, "b")
	d := x.c.Disk(0)
	b, _ := record.Put(record.Act{Kind: record.Write, Epoch: 1, Address: 1, Data: []byte("b")})
	if got, err := d.Read("r00000002"); string(got) != string(b) || err != nil {
		t.Error(got, err)
	}
	x.both(0, func(d *disk.Disk) { d.Cut() })
	x.has(0, `1 from 0: 0=data:"a" 1=data:"b"`) // it is on
	x.kill(0)
	if x.c.Disk(0) != d {
		t.Error("another disk")
	}
	x.start(0)
	if x.c.Disk(0) != d {
		t.Error("another disk")
	}
}

// P13.1: a nil cluster, ahead of all else.
func TestNil(t *testing.T) {
	var c *slog.Cluster
	n, err := c.Append([]byte(long(65)))
	x, err2 := c.Read(-1)
	tail, err3 := c.Tail()
	if n != 0 || tail != 0 || !cell.Same(x, cell.Cell{}) {
		t.Error(n, tail, x)
	}
	for i, err := range []error{
		err, err2, err3, c.Fill(-1), c.Fill(0), c.Put(-1, cell.Cell{}), c.Put(0, data("a")), c.Trim(-1), c.Trim(0), c.Cut(-1), c.Cut(0),
		c.Rebuild(), c.Rebuild(-1), c.Kill(-1), c.Kill(0, true), c.Start(-1), c.Start(0), c.Fuse(-1, -1), c.Fuse(0, 0), c.Compact(-1), c.Compact(0),
	} {
		if err != api.ErrNone {
			t.Error(i, err)
		}
	}
	if p := c.Projection(); p.Epoch != 0 || len(p.Chains) != 0 || c.Able(0) || c.Unit(0) != nil || c.Disk(0) != nil {
		t.Error(p)
	}
}
