package unit_test

import (
	"math/rand"
	"testing"

	"holdfast/api"
	"holdfast/cell"
	"holdfast/unit"
)

func pick[T any](r *rand.Rand, list []T) T { return list[r.Intn(len(list))] }

// drawEpoch is the unit's own one most of the time.
func drawEpoch(r *rand.Rand, own int) int {
	switch r.Intn(10) {
	case 0:
		return own - 1 - r.Intn(2)
	case 1:
		return own + 1 + r.Intn(2)
	case 2:
		return pick(r, append(noEpochs(), 0, 1, epochs))
	}
	return own
}

// drawStep is a step at an address; few of them trim far, or cut much.
func drawStep(r *rand.Rand) step {
	s := step{op: pick(r, []byte("wwwwwffftc")), n: pick(r, windows())}
	switch {
	case r.Intn(12) == 0:
		s.n = pick(r, outside())
	case s.op == 't' && r.Intn(4) > 0:
		s.n = r.Intn(4)
	}
	if s.op == 'w' {
		s.text = long(pick(r, []int{0, 1, 1, 2, 3, 63, 64, 65}))
	}
	return s
}

// P8.1: in any order, at all arguments.
func TestAnyOrder(t *testing.T) {
	for seed := range int64(150) {
		r := rand.New(rand.NewSource(seed))
		x := begin(t)
		for range 60 {
			if r.Intn(10) > 0 {
				x.do(drawEpoch(r, x.p.epoch), drawStep(r))
				continue
			}
			epoch := drawEpoch(r, x.p.epoch+r.Intn(2))
			if r.Intn(4) > 0 && epoch > 1<<32 { // else soon no later epoch is left
				epoch = 0
			}
			tail, err := x.u.Seal(epoch)
			if want, wantErr := x.p.seal(epoch); tail != want || err != wantErr {
				t.Fatalf("seed %d: Seal(%d) = %d, %v, want %d, %v", seed, epoch, tail, err, want, wantErr)
			}
			x.same("Seal")
		}
		asOthers(t, x.u)
	}
}

// asOthers asks whether a unit is the same as its copy, and as one that is made of what it tells.
func asOthers(t *testing.T, u *unit.Unit) {
	t.Helper()
	again, err := unit.Of(u.Epoch(), u.Low(), u.Entries())
	if err != nil || !unit.Same(u, again) || !unit.Same(again, u) || !unit.Same(u, u.Copy()) {
		t.Fatalf("of %s: %v", showAll(u.Entries()), err)
	}
}

// cellsOf is what is read at the addresses at which the tests look.
func cellsOf(t *testing.T, u *unit.Unit) []cell.Cell {
	t.Helper()
	var list []cell.Cell
	for _, address := range windows() {
		c, err := u.Read(u.Epoch(), address)
		if err != nil {
			t.Fatal(err)
		}
		list = append(list, c)
	}
	return list
}

// P8.2: a cell only becomes what it may become, but by Cut, and Cut empties cells from its address on alone; epochs and low marks never fall; what is refused has changed nothing.
func TestCellsOnlyBecomeWhatTheyMay(t *testing.T) {
	for seed := range int64(200) {
		r := rand.New(rand.NewSource(1000 + seed))
		u := unit.New()
		for range 60 {
			was, cells := u.Copy(), cellsOf(t, u)
			s, err := drawStep(r), error(nil)
			if r.Intn(8) == 0 {
				s = step{op: 's'}
				_, err = u.Seal(u.Epoch() + r.Intn(3) - 1)
			} else {
				_, err = ask(u, drawEpoch(r, u.Epoch()), s)
			}
			if err != nil && !unit.Same(u, was) {
				t.Fatalf("seed %d: %c at %d is refused, and changes something", seed, s.op, s.n)
			}
			if u.Epoch() < was.Epoch() || u.Low() < was.Low() {
				t.Fatalf("seed %d: behind %c: epoch %d, low %d, were %d, %d", seed, s.op, u.Epoch(), u.Low(), was.Epoch(), was.Low())
			}
			for i, c := range cellsOf(t, u) {
				cut := s.op == 'c' && err == nil && windows()[i] >= s.n && c.Kind == cell.Empty
				if !cell.May(cells[i], c) && !cut {
					t.Fatalf("seed %d: behind %c at %d cell %d is %s, was %s", seed, s.op, s.n, windows()[i], show(c), show(cells[i]))
				}
			}
		}
	}
}

// P8.2: behind Seal nothing is changed by who tells an elder epoch.
func TestBehindSealElderEpochsChangeNothing(t *testing.T) {
	for seed := range int64(100) {
		r := rand.New(rand.NewSource(2000 + seed))
		u := unit.New()
		for range 20 {
			ask(u, 0, drawStep(r))
		}
		elder := 0
		for range 3 {
			later := elder + 1 + r.Intn(1000)
			if _, err := u.Seal(later); err != nil {
				t.Fatal(err)
			}
			was := u.Copy()
			for range 40 {
				_, err := ask(u, elder+r.Intn(later-elder), drawStep(r))
				if err != api.ErrSealed && err != api.ErrRange && err != api.ErrLong || !unit.Same(u, was) {
					t.Fatalf("seed %d: %v", seed, err)
				}
			}
			elder = later
			for range 3 {
				ask(u, later, drawStep(r))
			}
		}
	}
}
