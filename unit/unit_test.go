package unit_test

import (
	"math"
	"slices"
	"testing"

	"holdfast/api"
	"holdfast/cell"
	"holdfast/unit"
)

// P8.1: New.

func TestNew(t *testing.T) {
	begin(t).has(0)
	a, b := unit.New(), unit.New()
	if err := a.Write(0, 0, []byte("a")); err != nil || len(b.Entries()) != 0 {
		t.Error("two new ones share what they have", err)
	}
}

// P8.1: the chapter's example.
func TestExample(t *testing.T) {
	x := begin(t)
	x.wants(nil, write(3, "a"))
	x.wants(api.ErrWritten, write(3, "b"))
	x.has(4, entry(3, data("a")))
}

// P8.1: Write.

func TestWrite(t *testing.T) {
	x := begin(t)
	x.wants(nil, write(addresses-1, long(64)))
	x.has(addresses, entry(addresses-1, data(long(64))))
	x.wants(nil, write(0, ""), write(7, long(63)), write(2, "\x00"))
	x.has(addresses, entry(0, data("")), entry(2, data("\x00")), entry(7, data(long(63))), entry(addresses-1, data(long(64))))
}

func TestWriteRefuses(t *testing.T) {
	x := begin(t)
	x.wants(nil, trim(2), write(3, "a"), write(4, ""), fill(5))
	x.seals(7, 6, nil)
	for _, epoch := range []int{6, 7, 8} {
		for _, address := range outside() {
			x.by(epoch, api.ErrRange, write(address, ""), write(address, long(64)), write(address, long(65)))
		}
		for _, address := range []int{0, 1, 2, 3, 4, 5, 6, addresses - 1} {
			x.by(epoch, api.ErrLong, write(address, long(65)), write(address, long(1000)))
		}
	}
	// What is there already is refused, too.
	x.wants(api.ErrTrimmed, write(0, ""), write(0, "a"), write(1, "a"))
	x.wants(api.ErrWritten, write(3, "a"), write(3, "b"), write(3, ""), write(4, ""), write(4, "a"), write(5, ""), write(5, "a"))
	x.has(6, entry(3, data("a")), entry(4, data("")), entry(5, of(cell.Hole)))
	x.wants(nil, write(2, "b"))
	if err := x.u.Write(7, 2, nil); err != api.ErrWritten {
		t.Error(err)
	}
	if err := x.u.Write(7, 6, nil); err != nil {
		t.Error(err)
	}
}

// P8.1: Fill.

func TestFill(t *testing.T) {
	x := begin(t)
	x.wants(nil, fill(addresses-1), fill(3), fill(0))
	// A hole may be filled again.
	x.wants(nil, fill(3), fill(3))
	x.wants(api.ErrWritten, write(3, ""))
	x.has(addresses, entry(0, of(cell.Hole)), entry(3, of(cell.Hole)), entry(addresses-1, of(cell.Hole)))
}

func TestFillRefuses(t *testing.T) {
	x := begin(t)
	x.wants(nil, write(3, "a"), write(4, ""), trim(2))
	x.seals(7, 5, nil)
	for _, address := range outside() {
		for _, epoch := range []int{6, 7, 8} {
			x.by(epoch, api.ErrRange, fill(address))
		}
	}
	x.wants(api.ErrTrimmed, fill(0), fill(1))
	x.wants(api.ErrWritten, fill(3), fill(4))
	x.wants(nil, fill(2))
	x.has(5, entry(2, of(cell.Hole)), entry(3, data("a")), entry(4, data("")))
}

// P8.1: Read.

func TestRead(t *testing.T) {
	x := begin(t)
	x.wants(nil, write(2, "x"), trim(3), write(4, "ab"), fill(5), write(6, ""), write(addresses-1, long(64)))
	for address, want := range map[int]cell.Cell{
		0: of(cell.Trimmed), 2: of(cell.Trimmed), 3: of(cell.Empty), 4: data("ab"), 5: of(cell.Hole), 6: data(""), 7: of(cell.Empty),
		addresses - 2: of(cell.Empty), addresses - 1: data(long(64)),
	} {
		if c, err := x.u.Read(0, address); show(c) != show(want) || err != nil {
			t.Errorf("Read(%d) = %s, %v, want %s", address, show(c), err, show(want))
		}
	}
	x.seals(7, addresses, nil)
	reads := func(epoch, address int, want error) {
		t.Helper()
		if c, err := x.u.Read(epoch, address); show(c) != show(cell.Cell{}) || err != want {
			t.Errorf("Read(%d, %d) = %s, %v, want %v", epoch, address, show(c), err, want)
		}
	}
	for _, address := range outside() {
		for _, epoch := range []int{6, 7, 8} {
			reads(epoch, address, api.ErrRange)
		}
	}
	for _, address := range []int{0, 3, 4, 5, addresses - 1} {
		reads(6, address, api.ErrSealed)
		reads(8, address, api.ErrEpoch)
	}
}

// P8.1: Trim.

func TestTrim(t *testing.T) {
	x := begin(t)
	x.wants(nil, trim(0))
	x.has(0)
	x.wants(nil, write(1, "a"), write(3, "b"), fill(5), write(6, "c"))
	// What is trimmed is gone, and what stands at the mark isn't.
	x.wants(nil, trim(3))
	x.has(7, entry(3, data("b")), entry(5, of(cell.Hole)), entry(6, data("c")))
	// A mark that is less, or as great, changes nothing.
	x.wants(nil, trim(0), trim(1), trim(2), trim(3))
	x.has(7, entry(3, data("b")), entry(5, of(cell.Hole)), entry(6, data("c")))
	x.wants(nil, trim(6))
	x.has(7, entry(6, data("c")))
	x.wants(nil, trim(7))
	x.has(7)
	// Beyond the tail, too.
	x.wants(nil, trim(128))
	x.has(128)
	x.wants(nil, trim(addresses))
	x.has(addresses)
	x.wants(api.ErrTrimmed, write(addresses-1, "a"), fill(addresses-1), cut(addresses-1))
	x.wants(nil, trim(0), cut(addresses))
	x.has(addresses)
}

func TestTrimRefuses(t *testing.T) {
	x := begin(t)
	x.wants(nil, write(3, "a"))
	x.seals(7, 4, nil)
	for _, below := range beyond() {
		for _, epoch := range []int{6, 7, 8} {
			x.by(epoch, api.ErrRange, trim(below))
		}
	}
	x.by(6, api.ErrSealed, trim(0), trim(4), trim(addresses))
	x.by(8, api.ErrEpoch, trim(0), trim(4), trim(addresses))
	x.has(4, entry(3, data("a")))
}

// P8.1: Cut.

func TestCut(t *testing.T) {
	x := begin(t)
	x.cuts(0, 0)
	x.wants(nil, write(2, "a"), fill(4), write(5, ""), write(addresses-1, "z"))
	x.cuts(addresses, 0)
	x.cuts(addresses-1, 1)
	x.has(6, entry(2, data("a")), entry(4, of(cell.Hole)), entry(5, data("")))
	x.cuts(6, 0)
	x.cuts(3, 2)
	x.has(3, entry(2, data("a")))
	// What is empty again may be written otherwise.
	x.wants(nil, fill(5), write(4, "b"))
	x.has(6, entry(2, data("a")), entry(4, data("b")), entry(5, of(cell.Hole)))
	// What is trimmed doesn't count, and stays.
	x.wants(nil, trim(3))
	x.cuts(3, 2)
	x.has(3)
	x.wants(api.ErrTrimmed, cut(0), cut(2), write(2, ""))
}

func TestCutRefuses(t *testing.T) {
	x := begin(t)
	x.wants(nil, write(3, "a"), fill(5), trim(2))
	x.seals(7, 6, nil)
	for _, from := range beyond() {
		for _, epoch := range []int{6, 7, 8} {
			x.by(epoch, api.ErrRange, cut(from))
		}
	}
	x.by(6, api.ErrSealed, cut(0), cut(2), cut(3), cut(addresses))
	x.by(8, api.ErrEpoch, cut(0), cut(2), cut(3), cut(addresses))
	x.wants(api.ErrTrimmed, cut(0), cut(1))
	x.has(6, entry(3, data("a")), entry(5, of(cell.Hole)))
}

// P8.1: Seal.

func TestSeal(t *testing.T) {
	x := begin(t)
	x.seals(1, 0, nil)
	x.wants(nil, write(3, "a"))
	x.seals(3, 4, nil)
	x.wants(nil, trim(7))
	x.seals(4, 7, nil)
	x.wants(nil, fill(8))
	x.seals(epochs-1, 9, nil)
	x.seals(epochs, 9, nil)
	x.wants(nil, write(7, "b"))
	x.has(9, entry(7, data("b")), entry(8, of(cell.Hole)))
}

func TestSealRefuses(t *testing.T) {
	x := begin(t)
	x.seals(0, 0, api.ErrSealed)
	x.wants(nil, write(3, "a"))
	x.seals(5, 4, nil)
	for _, epoch := range []int{0, 1, 4, 5} {
		x.seals(epoch, 0, api.ErrSealed)
	}
	x.seals(epochs, 4, nil)
	for _, epoch := range []int{0, 5, epochs - 1, epochs} {
		x.seals(epoch, 0, api.ErrSealed)
	}
	for _, epoch := range noEpochs() {
		x.seals(epoch, 0, api.ErrRange)
	}
}

// P8.1: Tail.

func TestTail(t *testing.T) {
	x := begin(t)
	x.wants(nil, write(5, "a"), fill(2))
	x.has(6, entry(2, of(cell.Hole)), entry(5, data("a")))
	x.seals(9, 6, nil)
	for _, c := range []struct {
		epoch, tail int
		want        error
	}{{9, 6, nil}, {8, 0, api.ErrSealed}, {0, 0, api.ErrSealed}, {-1, 0, api.ErrSealed}, {math.MinInt, 0, api.ErrSealed}, {10, 0, api.ErrEpoch}, {epochs, 0, api.ErrEpoch}, {epochs + 1, 0, api.ErrEpoch}, {1<<32 + 9, 0, api.ErrEpoch}, {math.MaxInt, 0, api.ErrEpoch}} {
		if tail, err := x.u.Tail(c.epoch); tail != c.tail || err != c.want {
			t.Errorf("Tail(%d) = %d, %v, want %d, %v", c.epoch, tail, err, c.tail, c.want)
		}
	}
}

// Whoever asks by another epoch is refused, by every call, whatever else is wrong with what stands there.
func TestWhoeverAsksByAnotherEpoch(t *testing.T) {
	x := begin(t)
	x.wants(nil, trim(2), write(3, "a"), fill(4))
	x.seals(epochs-1, 5, nil)
	for address := range 7 {
		steps := []step{write(address, "b"), write(address, ""), fill(address), trim(address), cut(address)}
		for _, epoch := range []int{-1, 0, 1, epochs - 2, math.MinInt} {
			x.by(epoch, api.ErrSealed, steps...)
		}
		for _, epoch := range []int{epochs, epochs + 1, math.MaxInt} {
			x.by(epoch, api.ErrEpoch, steps...)
		}
	}
	x.has(5, entry(3, data("a")), entry(4, of(cell.Hole)))
}

// P8.1: Of.

func TestOf(t *testing.T) {
	for _, c := range []struct {
		epoch, low, tail int
		list             []unit.Entry
	}{
		{0, 0, 0, nil},
		{0, 0, 0, []unit.Entry{}},
		{epochs, addresses, addresses, nil},
		{epochs - 1, addresses - 1, addresses - 1, nil},
		{1, 0, 1, []unit.Entry{entry(0, data("a"))}},
		{1, 3, 4, []unit.Entry{entry(3, of(cell.Hole))}},
		{2, addresses - 1, addresses, []unit.Entry{entry(addresses-1, data(""))}},
		{2, 3, addresses, []unit.Entry{entry(4, data(long(64))), entry(5, of(cell.Hole)), entry(addresses-1, of(cell.Hole))}},
		{7, 1, 66, []unit.Entry{entry(2, data("a")), entry(64, data("a")), entry(65, data("b"))}},
	} {
		u, err := unit.Of(c.epoch, c.low, c.list)
		if u == nil || err != nil {
			t.Errorf("Of(%d, %d, %s): %v", c.epoch, c.low, showAll(c.list), err)
			continue
		}
		if tail, err := u.Tail(c.epoch); u.Epoch() != c.epoch || u.Low() != c.low || tail != c.tail || err != nil {
			t.Errorf("Of(%d, %d, %s): epoch %d, low %d, tail %d, %v", c.epoch, c.low, showAll(c.list), u.Epoch(), u.Low(), tail, err)
		}
		if got := showAll(u.Entries()); got != showAll(c.list) {
			t.Errorf("entries %s, want %s", got, showAll(c.list))
		}
	}
}

// What is made of entries may be used like any other one, an empty one, too.
func TestOfIsAUnit(t *testing.T) {
	u, err := unit.Of(5, 2, []unit.Entry{entry(3, data("a"))})
	if err != nil {
		t.Fatal(err)
	}
	x := &pair{t, u, &plain{epoch: 5, done: []step{trim(2), write(3, "a")}}}
	x.same("Of")
	x.wants(api.ErrWritten, write(3, "b"), fill(3))
	x.wants(api.ErrTrimmed, write(1, "b"), fill(0), cut(1))
	x.wants(nil, write(2, "b"), fill(8))
	x.seals(6, 9, nil)
	x.cuts(3, 2)

	if u, err = unit.Of(0, 0, nil); err != nil {
		t.Fatal(err)
	}
	x = &pair{t, u, &plain{}}
	x.wants(nil, fill(3), write(2, "a"), trim(1))
}

func TestOfRefuses(t *testing.T) {
	ok := entry(9, data("a"))
	rangeFault := entry(addresses, data("a"))
	kindFault := entry(10, of(4))
	longFault := entry(10, cell.Cell{Kind: cell.Hole, Data: make([]byte, 65)})
	formFault := entry(10, cell.Cell{Kind: cell.Hole, Data: make([]byte, 1)})
	empty, trimmed := entry(10, of(cell.Empty)), entry(10, of(cell.Trimmed))
	falls := entry(8, data("b"))
	for i, c := range []struct {
		list []unit.Entry
		want error
	}{
		{[]unit.Entry{rangeFault}, api.ErrRange},
		{[]unit.Entry{entry(-1, data("a"))}, api.ErrRange},
		{[]unit.Entry{entry(4, data("a"))}, api.ErrRange}, // below the low mark
		{[]unit.Entry{entry(0, data("a")), ok}, api.ErrRange},
		{[]unit.Entry{ok, entry(math.MaxInt, data("a"))}, api.ErrRange},
		{[]unit.Entry{ok, entry(math.MinInt, data("a"))}, api.ErrRange},
		{[]unit.Entry{ok, entry(1<<32+10, data("a"))}, api.ErrRange},
		{[]unit.Entry{kindFault}, api.ErrRange},
		{[]unit.Entry{entry(10, of(-1))}, api.ErrRange},
		{[]unit.Entry{entry(10, of(1<<32+1))}, api.ErrRange},
		{[]unit.Entry{ok, longFault}, api.ErrLong},
		{[]unit.Entry{entry(10, data(long(65)))}, api.ErrLong},
		{[]unit.Entry{formFault}, api.ErrForm},
		{[]unit.Entry{empty}, api.ErrForm},
		{[]unit.Entry{ok, trimmed}, api.ErrForm},
		{[]unit.Entry{trimmed, entry(11, data("a"))}, api.ErrForm},
		{[]unit.Entry{ok, ok}, api.ErrState},
		{[]unit.Entry{ok, entry(9, of(cell.Hole))}, api.ErrState},
		{[]unit.Entry{ok, falls}, api.ErrState},
		{[]unit.Entry{ok, entry(11, data("a")), entry(10, data("a"))}, api.ErrState},
		{[]unit.Entry{ok, entry(addresses-1, data("a")), entry(5, data("a"))}, api.ErrState},
		// Addresses go ahead of cells, wherever they stand.
		{[]unit.Entry{longFault, rangeFault}, api.ErrRange},
		{[]unit.Entry{formFault, rangeFault}, api.ErrRange},
		{[]unit.Entry{empty, rangeFault}, api.ErrRange},
		{[]unit.Entry{ok, falls, rangeFault}, api.ErrRange},
		// Of cells the first one's error is told.
		{[]unit.Entry{longFault, kindFault}, api.ErrLong},
		{[]unit.Entry{kindFault, longFault}, api.ErrRange},
		{[]unit.Entry{formFault, longFault}, api.ErrForm},
		{[]unit.Entry{longFault, formFault}, api.ErrLong},
		// No cells go ahead of those that mayn't stand there.
		{[]unit.Entry{empty, longFault}, api.ErrLong},
		{[]unit.Entry{trimmed, kindFault}, api.ErrRange},
		// These go ahead of the order.
		{[]unit.Entry{ok, falls, empty}, api.ErrForm},
		{[]unit.Entry{ok, falls, trimmed}, api.ErrForm},
		{[]unit.Entry{ok, falls, longFault}, api.ErrLong},
		{[]unit.Entry{ok, falls, kindFault}, api.ErrRange},
	} {
		if u, err := unit.Of(3, 5, c.list); u != nil || err != c.want {
			t.Errorf("%d: Of(3, 5, %s) = %v, %v, want %v", i, showAll(c.list), u, err, c.want)
		}
	}
	if u, err := unit.Of(3, addresses, []unit.Entry{ok}); u != nil || err != api.ErrRange {
		t.Error(u, err)
	}
}

func TestOfRefusesEpochsAndMarks(t *testing.T) {
	lists := [][]unit.Entry{nil, {entry(9, data("a"))}, {entry(9, data(long(65)))}, {entry(9, of(cell.Empty))}, {entry(9, data("a")), entry(9, data("a"))}}
	for _, list := range lists {
		for _, epoch := range noEpochs() {
			if u, err := unit.Of(epoch, 0, list); u != nil || err != api.ErrRange {
				t.Errorf("Of(%d, 0, %s) = %v, %v", epoch, showAll(list), u, err)
			}
		}
		for _, low := range beyond() {
			if u, err := unit.Of(0, low, list); u != nil || err != api.ErrRange {
				t.Errorf("Of(0, %d, %s) = %v, %v", low, showAll(list), u, err)
			}
		}
	}
}

// P8.1: as many cells as there are addresses.

func TestAFullUnit(t *testing.T) {
	if testing.Short() {
		t.Skip("takes seconds")
	}
	u := unit.New()
	for address := range addresses {
		if err := u.Write(0, address, []byte{byte(address), byte(address >> 8)}); err != nil {
			t.Fatal(address, err)
		}
	}
	list := u.Entries()
	if tail, err := u.Seal(1); tail != addresses || err != nil || len(list) != addresses {
		t.Fatal(tail, err, len(list))
	}
	for address, e := range list {
		if e.Address != address || e.Cell.Kind != 1 || string(e.Cell.Data) != string([]byte{byte(address), byte(address >> 8)}) {
			t.Fatal(address, e)
		}
	}
	again, err := unit.Of(1, 0, list)
	if err != nil || !unit.Same(u, again) {
		t.Fatal(err)
	}
	if err := u.Trim(1, 1000); err != nil || len(u.Entries()) != addresses-1000 {
		t.Error(err)
	}
	if gone, err := u.Cut(1, 1001); gone != addresses-1001 || err != nil || len(u.Entries()) != 1 {
		t.Error(gone, err)
	}
	if gone, err := again.Cut(1, 0); gone != addresses || err != nil {
		t.Error(gone, err)
	}
}

// P8.1: Copy, Same.

// made is a unit of the epoch 1, the low mark 2 and two cells, to which steps are done.
func made(t *testing.T, steps ...step) *unit.Unit {
	t.Helper()
	u, err := unit.Of(1, 2, []unit.Entry{entry(3, data("a")), entry(5, of(cell.Hole))})
	if err != nil {
		t.Fatal(err)
	}
	for _, s := range steps {
		if _, err := ask(u, 1, s); err != nil {
			t.Fatal(err)
		}
	}
	return u
}

func TestSame(t *testing.T) {
	sealed := made(t)
	sealed.Seal(2)
	units := []*unit.Unit{
		nil, unit.New(), made(t), sealed, made(t, trim(3)), made(t, trim(4)), made(t, write(4, "")), made(t, fill(4)), made(t, cut(5)), made(t, cut(3)),
		made(t, cut(3), write(3, "b"), fill(5)), made(t, cut(3), write(3, "ab"), fill(5)), made(t, cut(3), write(3, ""), fill(5)), made(t, cut(3), fill(3), fill(5)),
		made(t, cut(5), write(5, "")), made(t, cut(5), fill(6)), made(t, cut(5), fill(4)),
	}
	for i, a := range units {
		for k, b := range units {
			if got := unit.Same(a, b); got != (i == k) {
				t.Errorf("Same of %d and %d: %v", i, k, got)
			}
		}
	}
	if !unit.Same(made(t), made(t)) || !unit.Same(made(t, cut(3), fill(5), write(3, "a")), made(t)) || !unit.Same(unit.New(), unit.New()) {
		t.Error("what was done in another order isn't the same")
	}
	// How a unit came to its cells doesn't count: those that are trimmed are all alike.
	if !unit.Same(made(t, trim(6)), made(t, cut(3), trim(6))) {
		t.Error("what is trimmed counts")
	}
}

func TestCopy(t *testing.T) {
	u := made(t)
	c := u.Copy()
	if c == u || !unit.Same(u, c) || showAll(c.Entries()) != showAll(u.Entries()) {
		t.Fatal(showAll(c.Entries()))
	}
	apart := func(call string, a, b *unit.Unit, change func(u *unit.Unit)) {
		t.Helper()
		was := a.Copy()
		change(b)
		if !unit.Same(a, was) || unit.Same(a, b) {
			t.Errorf("%s of a copy changes what it is of", call)
		}
	}
	for _, s := range []step{write(6, "b"), fill(6), trim(3), trim(6), cut(3)} {
		apart(string(s.op), u, u.Copy(), func(u *unit.Unit) { ask(u, 1, s) })
		of := made(t)
		apart(string(s.op), of.Copy(), of, func(u *unit.Unit) { ask(u, 1, s) })
	}
	apart("Seal", u, u.Copy(), func(u *unit.Unit) { u.Seal(2) })
	// An empty one's copy may be written, too.
	e := unit.New().Copy()
	if err := e.Write(0, 0, []byte("a")); err != nil || len(e.Entries()) != 1 {
		t.Error(err)
	}
}

// P8.1: a nil Unit.

func TestNil(t *testing.T) {
	var u *unit.Unit
	for _, n := range append(append(outside(), noEpochs()...), 0, 1) {
		if tail, err := u.Seal(n); tail != 0 || err != api.ErrNone {
			t.Error(tail, err)
		}
		if tail, err := u.Tail(n); tail != 0 || err != api.ErrNone {
			t.Error(tail, err)
		}
		for _, epoch := range []int{-1, 0, 1} {
			for _, s := range []step{write(n, "a"), write(n, long(65)), fill(n), trim(n), cut(n)} {
				if gone, err := ask(u, epoch, s); gone != 0 || err != api.ErrNone {
					t.Errorf("%c: %d, %v", s.op, gone, err)
				}
			}
			if c, err := u.Read(epoch, n); show(c) != show(cell.Cell{}) || err != api.ErrNone {
				t.Error(show(c), err)
			}
		}
	}
	if u.Epoch() != 0 || u.Low() != 0 || u.Entries() != nil || u.Copy() != nil {
		t.Error(u.Epoch(), u.Low(), u.Entries(), u.Copy())
	}
	if !unit.Same(u, nil) || unit.Same(u, unit.New()) || unit.Same(unit.New(), u) {
		t.Error("Same")
	}
}

// What was handed in is neither changed nor kept, and an answer is new memory.

func wipe(b []byte) {
	for i := range b[:cap(b)] {
		b[:cap(b)][i] = 'W'
	}
}

func TestWriteKeepsNothing(t *testing.T) {
	u := unit.New()
	room := []byte("abcdef")
	if err := u.Write(0, 0, room[:3]); err != nil || string(room) != "abcdef" {
		t.Fatal(err, room)
	}
	wipe(room)
	if c, err := u.Read(0, 0); string(c.Data) != "abc" || err != nil {
		t.Error(c, err)
	}
}

func TestOfKeepsNothing(t *testing.T) {
	list := []unit.Entry{entry(0, data("abc")), entry(1, of(cell.Hole)), entry(2, data("def"))}
	was := showAll(list)
	u, err := unit.Of(0, 0, list[:2])
	if err != nil || showAll(list) != was {
		t.Fatal(err, showAll(list))
	}
	wipe(list[0].Cell.Data)
	list[1] = entry(7, of(cell.Empty))
	if got := showAll(u.Entries()); got != `0=1:"abc" 1=2:""` {
		t.Error(got)
	}
}

func TestAnswersShareNothing(t *testing.T) {
	want := `3=1:"abc" 5=1:"def" 6=2:""`
	u := unit.New()
	for _, s := range []step{write(3, "abc"), write(5, "def"), fill(6)} {
		ask(u, 0, s)
	}
	c := u.Copy()
	is := func(what string, u *unit.Unit) {
		t.Helper()
		if got := showAll(u.Entries()); got != want {
			t.Errorf("%s: %s, want %s", what, got, want)
		}
	}
	for _, one := range []*unit.Unit{u, c} {
		read, _ := one.Read(0, 3)
		wipe(read.Data)
		list := one.Entries()
		wipe(list[0].Cell.Data)
		if string(list[1].Cell.Data) != "def" {
			t.Error("two of one answer share what they have")
		}
		clear(list[:cap(list)])
		is("behind what was answered was changed", one)
	}
	is("the one", u)
	is("its copy", c)
	if !unit.Same(u, c) || !slices.Equal([]int{u.Epoch(), u.Low()}, []int{0, 0}) {
		t.Error("no more the same")
	}
}
