package record_test

import (
	"bytes"
	"math"
	"testing"

	"holdfast/api"
	"holdfast/cell"
	"holdfast/record"
	"holdfast/unit"
)

// asUnit is the text of a unit's frame, of numbers alone.
func asUnit(epoch, low, many uint64, rest ...uint64) string {
	return number(epoch, low, many) + number(rest...)
}

// holes is many holes from an address on, each one step behind the one ahead.
func holes(from, step, many int) []unit.Entry {
	var list []unit.Entry
	for i := range many {
		list = append(list, entry(from+i*step, of(cell.Hole)))
	}
	return list
}

// goodUnits is units, no two of them the same.
func goodUnits(t *testing.T) []*unit.Unit {
	list := []*unit.Unit{unit.New(), lively(t)}
	for _, epoch := range []int{1, 127, 128, epochs - 1, epochs} {
		list = append(list, made(t, epoch, 0))
	}
	for _, low := range []int{1, 127, 128, addresses - 1, addresses} {
		list = append(list, made(t, 0, low))
	}
	for _, c := range []cell.Cell{of(cell.Hole), data(""), data("a"), data("\x00"), data(long(64))} {
		list = append(list,
			made(t, 0, 0, entry(0, c)),
			made(t, 0, 0, entry(1, c)),
			made(t, 0, 5, entry(5, c)),
			made(t, 0, 5, entry(6, c), entry(7, c), entry(9, c)),
			made(t, 0, 0, entry(addresses-1, c)),
			made(t, 0, addresses-1, entry(addresses-1, c)),
			made(t, 0, 0, entry(0, c), entry(addresses-2, c), entry(addresses-1, c)),
		)
	}
	return append(list, made(t, epochs, 7, holes(7, 1, 1000)...), made(t, 3, 0, holes(100, 1000, 1000)...))
}

// wrongUnits is what is in a frame and no unit, and what is said of it.
func wrongUnits() map[string]error {
	const last = addresses - 1
	return map[string]error{
		"":                                   api.ErrForm,
		"\x00":                               api.ErrForm,
		"\x00\x00":                           api.ErrForm,
		"\x00\x00\x80\x00":                   api.ErrForm,
		"\x80\x00\x00\x00":                   api.ErrForm,
		asUnit(epochs+1, addresses+1, 65537): api.ErrRange,
		asUnit(epochs+1, 0, 0):               api.ErrRange,
		number(epochs + 1):                   api.ErrRange,
		asUnit(0, addresses+1, 65537):        api.ErrRange,
		asUnit(epochs+1, 0, 65537):           api.ErrRange,
		asUnit(epochs+1, 0, 0, 0):            api.ErrRange,
		asUnit(0, addresses+1, 0, 0):         api.ErrRange,
		asUnit(0, 0, 65537, addresses):       api.ErrLong,
		asUnit(0, math.MaxUint64, 0):         api.ErrRange,
		asUnit(0, 0, 65537):                  api.ErrLong,
		asUnit(0, 0, math.MaxUint64):         api.ErrLong,
		asUnit(0, 0, 65536):                  api.ErrForm,
		asUnit(0, 0, 0, 0):                   api.ErrForm,
		asUnit(0, 0, 1):                      api.ErrForm,
		asUnit(0, 0, 1, 0):                   api.ErrForm,
		asUnit(0, 0, 1, 0, 2, 0):             api.ErrForm,
		asUnit(0, 0, 2, 0, 2):                api.ErrForm,
		// Addresses.
		asUnit(0, 0, 1, addresses, 2):         api.ErrRange,
		asUnit(0, 0, 1, addresses):            api.ErrRange, // told ahead of the cell, which isn't there
		asUnit(0, 0, 1, math.MaxUint64, 2):    api.ErrRange,
		asUnit(0, 0, 1, math.MaxInt64, 2):     api.ErrRange,
		asUnit(0, 5, 1, addresses-5, 2):       api.ErrRange,
		asUnit(0, 5, 1, math.MaxUint64-3, 2):  api.ErrRange, // wraps round, if it isn't held against what is left
		asUnit(0, addresses, 1, 0, 2):         api.ErrRange,
		asUnit(0, last, 2, 0, 2, 0, 2):        api.ErrRange,
		asUnit(0, 0, 2, 0, 2, last, 2):        api.ErrRange,
		asUnit(0, 0, 2, last, 2, 0, 9):        api.ErrRange,
		asUnit(0, 0, 2, 5, 2, addresses-6, 2): api.ErrRange,
		// Cells.
		asUnit(0, 0, 1, 0, 4):        api.ErrRange,
		asUnit(0, 0, 1, 0, 4, 0):     api.ErrRange,
		asUnit(0, 0, 1, 0, 1):        api.ErrForm,
		asUnit(0, 0, 1, 0, 1, 65):    api.ErrLong,
		asUnit(0, 0, 1, 0, 1, 1):     api.ErrForm,
		asUnit(0, 0, 1, 0, 1, 0, 97): api.ErrForm,
		// Empty and trimmed ones are told last.
		asUnit(0, 0, 1, 0, 0):                       api.ErrForm,
		asUnit(0, 0, 1, 0, 3):                       api.ErrForm,
		asUnit(0, 0, 2, 0, 2, 0, 0):                 api.ErrForm,
		asUnit(0, 0, 2, 0, 3, 0, 2):                 api.ErrForm,
		asUnit(0, 0, 2, 0, 0, addresses, 0):         api.ErrRange,
		asUnit(0, 0, 2, 0, 3, 0, 4):                 api.ErrRange,
		asUnit(0, 0, 2, 0, 0, 0, 1, 65):             api.ErrLong,
		asUnit(0, 0, 2, 0, 2, 0, 1, 65, addresses):  api.ErrLong,
		asUnit(0, 0, 3, 0, 2, 0, 4, 0, 1, 65):       api.ErrRange,
		asUnit(0, 0, 3, 0, 1, 65, addresses, 2):     api.ErrLong,
		asUnit(0, 0, 3, 0, 0, addresses, 1, 65, 97): api.ErrRange,
	}
}

// P9.1: PutUnit.

func TestPutUnit(t *testing.T) {
	u := made(t, 1, 4, entry(4, data("ab")), entry(6, of(cell.Hole)))
	if b, err := record.PutUnit(u); err != nil || string(b) != string(framed("\x01\x04\x02\x00\x01\x02ab\x01\x02")) {
		t.Errorf("%x, %v", b, err)
	}
	for _, u := range goodUnits(t) {
		b, err := record.PutUnit(u)
		if err != nil || !bytes.Equal(b, framed(meantText(u.Epoch(), u.Low(), u.Entries()))) {
			t.Errorf("%.100s: %.100x, %v", showUnit(u), b, err)
		}
	}
	if b, err := record.PutUnit(nil); b != nil || err != api.ErrNone {
		t.Error(b, err)
	}
}

// full is a unit whose frame's text has n bytes, of that many holes, and one cell more of data.
func full(t *testing.T, n, many int) *unit.Unit {
	t.Helper()
	list := holes(0, 1, many)
	for size := range 65 {
		all := append(list[:many:many], entry(many, data(long(size))))
		if len(meantText(0, 0, all)) == n {
			return made(t, 0, 0, all...)
		}
	}
	t.Fatal("no data comes to that")
	return nil
}

// P9.1: the frame's text has 65536 bytes at most.
func TestPutUnitOfMuch(t *testing.T) {
	for _, c := range []struct {
		n    int
		want error
	}{{longest - 1, nil}, {longest, nil}, {longest + 1, api.ErrLong}, {longest + 2, api.ErrLong}} {
		u := full(t, c.n, 32750)
		before := showUnit(u)
		b, err := record.PutUnit(u)
		if err != c.want || (b == nil) != (err != nil) || showUnit(u) != before {
			t.Error(c.n, len(b), err)
		}
		if err != nil {
			continue
		}
		if again, err := record.TakeUnit(b); err != nil || !unit.Same(u, again) {
			t.Error(c.n, err)
		}
	}
	much := made(t, 0, 0, holes(0, 1, 100000)...)
	if b, err := record.PutUnit(much); b != nil || err != api.ErrLong {
		t.Error(len(b), err)
	}
}

// P9.1: TakeUnit.

func TestTakeUnit(t *testing.T) {
	for _, u := range goodUnits(t) {
		b := framed(meantText(u.Epoch(), u.Low(), u.Entries()))
		if got, err := record.TakeUnit(b); err != nil || !unit.Same(got, u) || showUnit(got) != showUnit(u) {
			t.Errorf("%.100s: %.100s, %v", showUnit(u), showUnit(got), err)
		}
	}
	for text, want := range wrongUnits() {
		if u, err := record.TakeUnit(framed(text)); u != nil || err != want {
			t.Errorf("%x: %s, %v, want %v", text, showUnit(u), err, want)
		}
		if _, err := plainUnit(framed(text)); err != want {
			t.Errorf("%x: the one told anew says %v, want %v", text, err, want)
		}
	}
}

func TestTakeUnitOfSpoiltFrames(t *testing.T) {
	text := asUnit(1, 4, 2, 0, 1, 2, 97, 98, 1, 2)
	for text, want := range spoiltFrames(text) {
		if u, err := record.TakeUnit([]byte(text)); u != nil || err != want {
			t.Errorf("%.40x: %s, %v, want %v", text, showUnit(u), err, want)
		}
	}
	good := framed(text)
	for n := range good {
		if u, err := record.TakeUnit(good[:n]); u != nil || err != api.ErrForm {
			t.Errorf("%d bytes: %s, %v", n, showUnit(u), err)
		}
	}
	if _, err := record.TakeUnit([]byte(text)); err == nil {
		t.Error("no frame")
	}
}

// A unit that was taken is one as good as any: it does what it is told.
func TestTakenUnitLives(t *testing.T) {
	b, _ := record.PutUnit(lively(t))
	u, err := record.TakeUnit(b)
	if err != nil {
		t.Fatal(err)
	}
	again := lively(t)
	for _, a := range []record.Act{write(2, 5, "x"), write(2, 4, "x"), trim(2, 4), seal(7), fill(7, 20), cut(7, 9)} {
		n, err := record.Apply(u, a)
		want, wantErr := direct(again, a)
		if n != want || err != wantErr || !unit.Same(u, again) {
			t.Errorf("%s: %d, %v, want %d, %v", showAct(a), n, err, want, wantErr)
		}
	}
}

// P9.2: each row of bytes is one unit, at most: whatever is taken is put as it was.
func TestTakeUnitOfAllRows(t *testing.T) {
	for _, head := range []string{"", "\x00", "\x01\x02", number(0, addresses-2), "\x00\x00\x01", "\x02\x00\x02\x00\x02"} {
		for _, tail := range rows("\x00\x01\x02\x03\x04\x80\x41", 5) {
			asToldUnit(t, framed(head+tail))
		}
	}
}

// Rule 5: what is handed in is neither changed nor kept, and answers are new memory.
func TestMemoryOfUnits(t *testing.T) {
	u := lively(t)
	b, _ := record.PutUnit(u)
	whole := bytes.Clone(b)
	got, err := record.TakeUnit(b)
	if err != nil || !bytes.Equal(b, whole) || showUnit(u) != showUnit(lively(t)) {
		t.Error("changed", err)
	}
	clear(b)
	if !unit.Same(got, u) {
		t.Error("the unit keeps the bytes")
	}
	if err := u.Write(2, 5, []byte("x")); err != nil {
		t.Error(err)
	}
	if !unit.Same(got, lively(t)) {
		t.Error("the unit is the one that was put")
	}
	b, _ = record.PutUnit(got)
	if !bytes.Equal(b, whole) {
		t.Error("the bytes are kept")
	}
}
