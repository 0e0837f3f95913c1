package shelf_test

import (
	"fmt"
	"math/rand"
	"slices"
	"testing"

	"holdfast/api"
	"holdfast/disk"
	"holdfast/record"
	"holdfast/shelf"
)

// compact stands among acts for a Compact, which does nothing to the unit.
var compact = record.Act{Kind: -1}

// doTo does an act, or compacts.
func doTo(s *shelf.Shelf, a record.Act) error {
	if a.Kind == compact.Kind {
		return s.Compact()
	}
	_, err := s.Do(a)
	return err
}

// with is acts, and one more behind them, if it is one.
func with(acts []record.Act, a record.Act) []record.Act {
	if a.Kind == compact.Kind {
		return acts
	}
	return append(slices.Clone(acts), a)
}

func open(t *testing.T, d *disk.Disk) *shelf.Shelf {
	t.Helper()
	s, err := shelf.Open(d)
	if err != nil {
		t.Fatal(err)
	}
	return s
}

// cutAt does acts till the power goes at operation n; it answers which had no error, and these and the one during which it went.
func cutAt(t *testing.T, acts []record.Act, n int) (d *disk.Disk, had, may []record.Act, failed bool) {
	t.Helper()
	d = fresh(t, 1000)
	s := open(t, d)
	d.Fuse(n)
	for i, a := range acts {
		may = with(had, a)
		switch err := doTo(s, a); err {
		case nil:
			had = may
		case api.ErrDown:
			if !s.Broken() {
				t.Error(n, "not broken")
			}
			return d, had, may, true
		case api.ErrWritten, api.ErrSealed: // it isn't done
		default:
			t.Fatal(i, err)
		}
	}
	return d, had, had, false
}

// has asks whether a shelf has had either acts, or those others, and answers which.
func has(t *testing.T, s *shelf.Shelf, had, may []record.Act) []record.Act {
	t.Helper()
	got := fmt.Sprint(s.Next(), " ", showUnit(s.Unit()))
	for _, acts := range [][]record.Act{had, may} {
		if got == fmt.Sprint(len(acts), " ", showUnit(unitOf(acts...))) {
			return acts
		}
	}
	t.Fatalf("%s, want %d %s, or with %v", got, len(had), showUnit(unitOf(had...)), may[len(had):])
	return nil
}

// history is acts of all kinds, refused ones, and compacts.
func history() []record.Act {
	return []record.Act{
		write(0, 0, "a"), write(0, 1, "b"), write(0, 1, "c"), seal(2), compact, fill(2, 3), seal(1), write(2, 4, "d"),
		trim(2, 1), compact, compact, cut(2, 3), write(2, 3, "e"), seal(3), compact, write(3, 5, ""), fill(3, 3), trim(3, 4),
	}
}

// picks calls for each way to keep some of so many changes.
func picks(many int, do func(keep []bool)) {
	for bits := range 1 << many {
		keep := make([]bool, many)
		for i := range keep {
			keep[i] = bits>>i&1 == 1
		}
		do(keep)
	}
}

// P10.2: at each operation, whatever is kept; the power may go in Open, too.
func TestWhereverThePowerGoes(t *testing.T) {
	failed := true
	for n := 0; failed; n++ {
		var d *disk.Disk
		d, _, _, failed = cutAt(t, history(), n)
		picks(d.Pending(), func(keep []bool) {
			for fuse := range 3 {
				d, had, may, _ := cutAt(t, history(), n)
				d.Cut(keep...)
				d.Start()
				d.Fuse(fuse)
				if _, err := shelf.Open(d); err != nil {
					d.Cut(fuse%2 == 0)
				}
				d.Start()
				had = has(t, open(t, d), had, may)
				goesOn(t, d, had)
			}
		})
	}
}

// P10.2: a start without a cut keeps nothing.
func TestStartWithoutCut(t *testing.T) {
	failed := true
	for n := 0; failed; n++ {
		var d *disk.Disk
		var had, may []record.Act
		d, had, may, failed = cutAt(t, history(), n)
		d.Start()
		goesOn(t, d, has(t, open(t, d), had, may))
	}
}

// goesOn asks whether what was opened anew does one act more, and has it behind the next cut.
func goesOn(t *testing.T, d *disk.Disk, had []record.Act) {
	t.Helper()
	s := open(t, d)
	had = with(had, seal(7))
	if _, err := s.Do(seal(7)); err != nil {
		t.Fatal(err)
	}
	d.Cut()
	d.Start()
	has(t, open(t, d), had, had)
}

// drawAct is an act that the unit may well do.
func drawAct(r *rand.Rand, epoch int) record.Act {
	address := r.Intn(6)
	switch r.Intn(10) {
	case 0:
		return compact
	case 1:
		return seal(epoch + r.Intn(2))
	case 2:
		return trim(epoch, r.Intn(3))
	case 3:
		return cut(epoch, address)
	case 4, 5:
		return fill(epoch, address)
	case 6:
		return write(epoch+r.Intn(3)-1, address, "y")
	}
	return write(epoch, address, long(r.Intn(20)))
}

// P10.2: what was done stays, however often the power goes.
func TestWhatWasDoneStays(t *testing.T) {
	for seed := range int64(60) {
		r := rand.New(rand.NewSource(seed))
		d := fresh(t, 400+r.Intn(400))
		var had []record.Act
		for range 40 {
			may := actTillDown(t, r, d, &had)
			d.Cut(r.Intn(2) == 0, r.Intn(2) == 0)
			if r.Intn(2) == 0 {
				d.Start()
				d.Fuse(r.Intn(2))
				shelf.Open(d)
			}
			d.Start()
			had = has(t, open(t, d), had, may)
		}
	}
}

// actTillDown does random acts till the power goes: those that had no error, and, as the answer, these and the one more.
func actTillDown(t *testing.T, r *rand.Rand, d *disk.Disk, had *[]record.Act) []record.Act {
	t.Helper()
	s := open(t, d)
	d.Fuse(r.Intn(40))
	for i := range 60 {
		a := drawAct(r, s.Epoch())
		may := with(*had, a)
		switch err := doTo(s, a); err {
		case nil:
			*had = may
		case api.ErrDown:
			return may
		case api.ErrFull: // a cut that takes all away, and a base of it, make room
			if i%2 == 0 {
				s.Compact()
			}
		}
		if s.Broken() {
			return *had
		}
	}
	return *had
}

// P10.1: any calls, in any order, whatever the fuses and cuts.
func TestAnyOrder(t *testing.T) {
	for seed := range int64(150) {
		r := rand.New(rand.NewSource(seed))
		x := begin(t, 60+r.Intn(600), nil)
		for range 100 {
			switch r.Intn(12) {
			case 0:
				n := r.Intn(24)
				x.fuse(n)
			case 1:
				keep := []bool{r.Intn(2) == 0, r.Intn(2) == 0}[:r.Intn(3)]
				x.both(func(d *disk.Disk) { d.Cut(keep...) })
			case 2, 3:
				x.both(func(d *disk.Disk) { d.Start() })
			case 4, 5:
				x.open()
			case 6:
				x.do(record.Act{Kind: r.Intn(8) - 1, Epoch: r.Intn(3) - 1, Address: r.Intn(8), Data: make([]byte, r.Intn(70))})
			default:
				if a := drawAct(r, x.s.Epoch()); a.Kind == compact.Kind {
					x.compact()
				} else {
					x.do(a)
				}
			}
		}
	}
}
