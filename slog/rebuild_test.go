package slog_test

import (
	"fmt"
	"testing"

	"holdfast/api"
	"holdfast/cell"
	"holdfast/disk"
	"holdfast/unit"
)

// P13.1: Rebuild.

// The document's example: chain 0 1, unit 0 dead, Rebuild with 3: chain 1 3, with all cells.
func TestRebuild(t *testing.T) {
	x := begin(t, 4, room, chain(0, 1))
	x.appends(0, "a", "b", "c")
	x.wants(nil, x.fill(4))
	x.wants(nil, x.trim(1))
	x.kill(0)
	x.wants(nil, x.rebuild(3))
	x.is(2, chain(1, 3))
	x.tail(5)
	for _, u := range chain(1, 3) {
		x.has(u, `2 from 1: 1=data:"b" 2=data:"c" 4=hole:""`)
	}
	x.has(2, "1 from 0:")
	x.appends(5, "d")
	x.start(0)
	x.has(0, `1 from 1: 1=data:"b" 2=data:"c" 4=hole:""`)
	x.reads(5, `data:"d"`)
}

// Nobody need be dead: all units that stay are made alike.
func TestRebuildEvens(t *testing.T) {
	x := begin(t, 3, room, chain(1, 0), chain(2))
	x.kill(0)
	x.append("a")
	x.append("b")
	x.wants(api.ErrDown, x.fill(2))
	x.wants(api.ErrDown, x.put(6, data("c")))
	x.start(0)
	x.has(0, "1 from 0:")
	x.wants(nil, x.rebuild())
	x.is(2, chain(1, 0), chain(2))
	x.tail(7)
	x.has(0, `2 from 0: 0=data:"a" 2=hole:"" 6=data:"c"`)
	x.has(1, `2 from 0: 0=data:"a" 2=hole:"" 6=data:"c"`)
	x.has(2, `2 from 0: 1=data:"b"`)
	x.wants(nil, x.rebuild())
	x.is(3, chain(1, 0), chain(2))
}

func TestRebuildRefuses(t *testing.T) {
	x := begin(t, 3, room, chain(0), chain(1, 2))
	x.appends(0, "a")
	x.kill(0)
	for _, u := range noUnits() {
		x.wants(api.ErrRange, x.rebuild(u))
		x.wants(api.ErrRange, x.rebuild(1, 2, u, 0))
	}
	x.wants(api.ErrState, x.rebuild())
	x.wants(api.ErrState, x.rebuild(1, 2))
	x.is(1, chain(0), chain(1, 2))
	x.start(0)
	x.kill(1)
	x.kill(2)
	x.wants(api.ErrState, x.rebuild(0))
	x.start(2)
	x.wants(nil, x.rebuild())
	x.is(2, chain(0), chain(2))
}

// A unit isn't able, if it is off, if its shelf is broken, or if its disk has no power.
func TestRebuildLeavesOut(t *testing.T) {
	x := begin(t, 6, room, chain(0, 1, 2, 3))
	x.appends(0, "a")
	x.fuse(0, 0)
	x.append("b")
	x.both(0, func(d *disk.Disk) { d.Start() }) // broken, with power
	x.kill(1)
	x.both(1, func(d *disk.Disk) { d.Start() }) // off, with power
	x.both(2, func(d *disk.Disk) { d.Cut() })   // on, without power
	x.kill(4)
	x.wants(nil, x.rebuild(4, 0, 5, 5, 3, 2))
	x.is(2, chain(3, 5))
	x.has(5, `2 from 0: 0=data:"a"`)
}

// The epoch is above that of all units that are able, wherever they are.
func TestRebuildEpoch(t *testing.T) {
	x := begin(t, 4, room, chain(0, 1))
	x.lay(3, unitAt(t, 7, 0))
	x.wants(nil, x.rebuild())
	x.is(8, chain(0, 1))
	x.lay(2, unitAt(t, 20, 0))
	x.kill(2)
	x.wants(nil, x.rebuild())
	x.is(9, chain(0, 1))
	x.lay(1, unitAt(t, 12, 0))
	x.wants(api.ErrSealed, x.put(0, data("a")))
	x.wants(nil, x.rebuild())
	x.is(13, chain(0, 1))
	x.has(0, `13 from 0: 0=data:"a"`)
	x.has(1, `13 from 0: 0=data:"a"`)
}

// And above the projection's, if all units have elder ones.
func TestEpochAboveTheProjections(t *testing.T) {
	x := begin(t, 2, room, chain(1, 0))
	for epoch := 2; epoch < 8; epoch += 2 {
		x.lay(0, unitAt(t, 0, 0))
		x.lay(1, unitAt(t, 0, 0))
		x.wants(nil, x.rebuild())
		x.is(epoch, chain(1, 0))
		x.lay(0, unitAt(t, 0, 0))
		x.lay(1, unitAt(t, 0, 0))
		x.wants(nil, x.cut(3))
		x.is(epoch+1, chain(1, 0))
		x.appends(3, "a")
	}
}

// holds lays a unit with a low mark, and data at the addresses.
func (x *pair) holds(u, low int, text string, addresses ...int) {
	x.t.Helper()
	var list []unit.Entry
	for _, address := range addresses {
		list = append(list, unit.Entry{Address: address, Cell: data(text)})
	}
	as, err := unit.Of(1, low, list)
	if err != nil {
		x.t.Fatal(err)
	}
	x.lay(u, as)
}

// The cell of the first unit that stays and has one goes into those that have none; what others have otherwise stays.
func TestRebuildTakesTheFirst(t *testing.T) {
	x := begin(t, 5, room, chain(4, 2, 0, 3))
	x.holds(4, 0, "e", 5)
	x.holds(2, 0, "c", 1, 7)
	x.holds(0, 0, "a", 1, 2, 5)
	x.holds(3, 0, "d", 0, 2, 9)
	x.holds(1, 0, "b", 0, 3, 11)
	x.wants(nil, x.rebuild(1)) // no place is free
	x.is(2, chain(4, 2, 0, 3))
	x.tail(10)
	x.has(4, `2 from 0: 0=data:"d" 1=data:"c" 2=data:"a" 5=data:"e" 7=data:"c" 9=data:"d"`)
	x.has(2, `2 from 0: 0=data:"d" 1=data:"c" 2=data:"a" 5=data:"e" 7=data:"c" 9=data:"d"`)
	x.has(0, `2 from 0: 0=data:"d" 1=data:"a" 2=data:"a" 5=data:"a" 7=data:"c" 9=data:"d"`)
	x.has(3, `2 from 0: 0=data:"d" 1=data:"c" 2=data:"d" 5=data:"e" 7=data:"c" 9=data:"d"`)
	x.has(1, `1 from 0: 0=data:"b" 3=data:"b" 11=data:"b"`)
}

// What a spare had is gone, but that it was trimmed; neither its cells nor its tail nor its low mark are the log's.
func TestRebuildEmptiesSpares(t *testing.T) {
	x := begin(t, 4, room, chain(0, 1), chain(2))
	x.holds(0, 0, "a", 0, 2, 4)
	x.holds(2, 1, "c", 1, 3)
	x.holds(3, 3, "d", 4, 6, 9)
	x.kill(1)
	x.wants(nil, x.rebuild(3))
	x.is(2, chain(0, 3), chain(2))
	x.tail(5)
	x.has(0, `2 from 1: 2=data:"a" 4=data:"a"`)
	x.has(3, `2 from 3: 4=data:"a"`)
	x.has(2, `2 from 1: 1=data:"c" 3=data:"c"`)
	x.reads(2, `trimmed:""`)
}

// The low mark is the greatest one of those that stay; the tail is told ahead of the trimming, and isn't below the mark.
func TestRebuildTrims(t *testing.T) {
	x := begin(t, 4, room, chain(1, 0), chain(2))
	x.holds(0, 5, "a", 6)
	x.holds(1, 2, "b", 2, 4, 8)
	x.holds(2, 0, "c", 1, 5, 7)
	x.kill(3)
	x.wants(nil, x.rebuild())
	x.tail(9)
	x.has(0, `2 from 5: 6=data:"a" 8=data:"b"`)
	x.has(1, `2 from 5: 6=data:"a" 8=data:"b"`)
	x.has(2, `2 from 5: 5=data:"c" 7=data:"c"`)
	x.lay(2, unitAt(t, 2, 8))
	x.wants(nil, x.rebuild())
	x.tail(9)
	x.lay(2, unitAt(t, 2, 30))
	x.wants(nil, x.rebuild())
	x.tail(30)
	x.has(1, "4 from 30:")
	x.lay(0, unitAt(t, 4, addresses))
	x.wants(nil, x.rebuild())
	x.tail(addresses)
}

// The sequencer goes back to behind the last cell: what was given away, and never written, is given away again.
func TestRebuildSetsTheTail(t *testing.T) {
	x := begin(t, 2, room, chain(0), chain(1))
	x.appends(0, "a")
	x.kill(1)
	x.append("b")
	x.start(1)
	x.appends(2, "c")
	x.kill(1)
	x.append("d")
	x.start(1)
	x.tail(4)
	x.wants(nil, x.rebuild())
	x.tail(3)
	x.appends(3, "e")
	x.reads(1, `empty:""`)
}

// Spares are taken in their order, for the first chain first; chains never grow.
func TestRebuildSpares(t *testing.T) {
	x := begin(t, 8, room, chain(0, 1), chain(2, 3), chain(4))
	x.appends(0, "a", "b", "c", "d")
	x.kill(0)
	x.kill(3)
	x.wants(nil, x.rebuild(6, 6, 1, 3, 7, 5))
	x.is(2, chain(1, 6), chain(2, 7), chain(4))
	x.has(6, `2 from 0: 0=data:"a" 3=data:"d"`)
	x.has(7, `2 from 0: 1=data:"b"`)
	x.has(5, "1 from 0:")
	x.kill(7)
	x.start(0)
	x.start(3)
	x.wants(nil, x.rebuild())
	x.is(3, chain(1, 6), chain(2), chain(4))
	x.wants(nil, x.rebuild(0, 3, 5)) // they have as many as before
	x.is(4, chain(1, 6), chain(2), chain(4))
	x.kill(1)
	x.wants(nil, x.rebuild(0))
	x.is(5, chain(6, 0), chain(2), chain(4))
	x.has(0, `5 from 0: 0=data:"a" 3=data:"d"`)
}

// A spare that is full, or for which there is no room: the cluster is as it was, but sealed.
func TestRebuildNoRoom(t *testing.T) {
	x := begin(t, 3, 90, chain(0, 1))
	for i := range 4 {
		x.appends(i, "a")
		x.compact(0)
		x.compact(1)
	}
	x.kill(1)
	x.both(2, func(d *disk.Disk) { d.Write("x", make([]byte, 50)) })
	x.wants(api.ErrFull, x.rebuild(2))
	x.is(1, chain(0, 1))
	x.tail(4)
	x.start(1)
	if _, err := x.append("b"); err != api.ErrSealed {
		t.Error(err)
	}
	x.reads(0, `data:"a"`) // by unit 1, which isn't
	x.both(2, func(d *disk.Disk) { d.Remove("x") })
	x.wants(nil, x.rebuild(2))
	x.is(3, chain(0, 1))
	x.kill(0)
	x.both(2, func(d *disk.Disk) { d.Sync() })
	x.compact(2)
	x.wants(nil, x.rebuild(2))
	x.is(4, chain(1, 2))
	x.has(2, `4 from 0: 0=data:"a" 1=data:"a" 2=data:"a" 3=data:"a"`)
}

// P13.1: the power of each unit goes at each of its operations; whatever was done is as the plain cluster has it, and it is rebuilt.
func TestRebuildFails(t *testing.T) {
	for u := range 4 {
		failed := true
		for n := 0; failed; n++ {
			x := begin(t, 5, room, chain(1, 0), chain(2, 4))
			x.appends(0, "a", "b", "c", "d")
			x.kill(0)
			x.append("e")
			x.start(0)
			x.wants(nil, x.trim(1))
			x.kill(4)
			x.fuse(u, n)
			failed = x.rebuild(3) == api.ErrDown
			if !failed {
				x.is(2, chain(1, 0), chain(2, 3))
				break
			}
			x.is(1, chain(1, 0), chain(2, 4))
			x.tail(5)
			x.kill(u, n%2 == 0, true)
			x.start(u)
			x.wants(nil, x.rebuild(3))
			x.is(x.c.Projection().Epoch, chain(1, 0), chain(2, 3))
			x.tail(5)
			for address, want := range []string{`trimmed:""`, `data:"b"`, `data:"c"`, `data:"d"`, `data:"e"`} {
				x.reads(address, want)
			}
		}
	}
}

// P13.1: a unit may have cells at addresses whose home is another chain; it has them still, and so do the others of its chain.
func TestRebuildTakesAll(t *testing.T) {
	x := begin(t, 3, room, chain(0, 1), chain(2))
	list := []unit.Entry{{Address: 1, Cell: data("a")}, {Address: 2, Cell: hole()}, {Address: addresses - 1, Cell: cell.Cell{Kind: cell.Hole}}}
	as, err := unit.Of(1, 0, list)
	if err != nil {
		t.Fatal(err)
	}
	x.lay(0, as)
	if err := x.c.Rebuild(); err != nil {
		t.Fatal(err)
	}
	want := fmt.Sprintf(`2 from 0: 1=data:"a" 2=hole:"" %d=hole:""`, addresses-1)
	x.has(0, want)
	x.has(1, want)
	x.has(2, "2 from 0:")
	x.tail(addresses)
}
