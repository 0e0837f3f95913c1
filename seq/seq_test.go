package seq_test

import (
	"fmt"
	"math"
	"math/rand"
	"testing"

	"holdfast/api"
	"holdfast/seq"
)

// P12.1: New.

func TestNew(t *testing.T) {
	a, b := begin(t), begin(t)
	a.sets(nil, 3, 7)
	a.takes(3, 2, 7, nil)
	a.has(3, 9)
	// Another one has nothing of it.
	b.has(0, 0)
	b.takes(0, 1, 0, nil)
}

// P12.1: Take.

func TestTake(t *testing.T) {
	x := begin(t)
	x.takes(0, 2, 0, nil)
	x.takes(0, 1, 2, nil)
	x.has(0, 3)
	x.takes(0, most, 3, nil)
	x.takes(0, most-1, most+3, nil)
	x.takes(0, 1, 2*most+2, nil)
	x.has(0, 2*most+3)
}

func TestTakeOfEachNumber(t *testing.T) {
	x, next := begin(t), 0
	for many := 1; many <= most; many++ {
		x.takes(0, many, next, nil)
		next += many
		x.has(0, next)
	}
}

func TestTakeRefuses(t *testing.T) {
	x := begin(t)
	x.sets(nil, 7, 5)
	for _, epoch := range append(noEpochs(), 0, 6, 7, 8, epochs) {
		for _, many := range noManies() {
			x.takes(epoch, many, 0, api.ErrRange)
		}
	}
	for _, many := range []int{1, 2, most} {
		for _, epoch := range []int{6, 1, 0, -1, math.MinInt} {
			x.takes(epoch, many, 0, api.ErrSealed)
		}
		for _, epoch := range []int{8, epochs, epochs + 1, math.MaxInt} {
			x.takes(epoch, many, 0, api.ErrEpoch)
		}
	}
	x.has(7, 5)
	x.takes(7, 1, 5, nil)
}

// Up to the last address, and no further; what there is too little room for takes nothing.
func TestTakeTillFull(t *testing.T) {
	for _, left := range []int{0, 1, 2, most - 1, most, most + 1} {
		x := begin(t)
		x.sets(nil, 7, addresses-left)
		for many := left + 1; many <= most; many++ {
			x.takes(7, many, 0, api.ErrFull)
		}
		x.takes(7, most+1, 0, api.ErrRange)
		x.takes(6, most, 0, api.ErrSealed)
		x.takes(8, most, 0, api.ErrEpoch)
		x.has(7, addresses-left)
		if left > most {
			x.takes(7, 1, addresses-left, nil)
			left--
		}
		if left > 0 {
			x.takes(7, left, addresses-left, nil)
		}
		x.has(7, addresses)
		x.takes(7, 1, 0, api.ErrFull)
		x.takes(7, most, 0, api.ErrFull)
		// A later epoch may have room again.
		x.sets(nil, 8, addresses-1)
		x.takes(8, 1, addresses-1, nil)
		x.takes(8, 1, 0, api.ErrFull)
	}
}

// P12.1: Raise.

func TestRaise(t *testing.T) {
	x := begin(t)
	x.raises(nil, 0, 0)
	x.has(0, 0)
	x.raises(nil, 0, 5)
	x.has(0, 5)
	x.takes(0, 2, 5, nil)
	// What is less, or as great, changes nothing.
	x.raises(nil, 0, 6, 0, 5, 1, 7)
	x.has(0, 7)
	x.takes(0, 1, 7, nil)
	x.raises(nil, 0, 9)
	x.has(0, 9)
	x.raises(nil, 0, addresses-1, addresses-2)
	x.has(0, addresses-1)
	x.takes(0, 1, addresses-1, nil)
	x.raises(nil, 0, addresses, 0)
	x.has(0, addresses)
	x = begin(t)
	x.raises(nil, 0, addresses)
	x.takes(0, 1, 0, api.ErrFull)
}

func TestRaiseRefuses(t *testing.T) {
	x := begin(t)
	x.sets(nil, 7, 5)
	for _, epoch := range append(noEpochs(), 0, 6, 7, 8, epochs) {
		x.raises(api.ErrRange, epoch, beyond()...)
	}
	for _, epoch := range []int{6, 1, 0, -1, math.MinInt} {
		x.raises(api.ErrSealed, epoch, 0, 5, 6, addresses)
	}
	for _, epoch := range []int{8, epochs, epochs + 1, math.MaxInt} {
		x.raises(api.ErrEpoch, epoch, 0, 5, 6, addresses)
	}
	x.has(7, 5)
}

// P12.1: Set.

func TestSet(t *testing.T) {
	x := begin(t)
	x.sets(nil, 1, 0)
	x.has(1, 0)
	x.sets(nil, 2, 9)
	x.has(2, 9)
	x.takes(2, 3, 9, nil)
	// It may be less than it was.
	x.sets(nil, 5, 4)
	x.has(5, 4)
	x.takes(5, 1, 4, nil)
	x.takes(2, 1, 0, api.ErrSealed)
	x.sets(nil, epochs-1, addresses)
	x.has(epochs-1, addresses)
	x.sets(nil, epochs, 0)
	x.has(epochs, 0)
	x.takes(epochs, 1, 0, nil)
	// No epoch is above the last one.
	x.sets(api.ErrSealed, epochs, 0, 1, addresses)
	x.sets(api.ErrRange, epochs+1, 0, 1, addresses)
	x.has(epochs, 1)
}

func TestSetRefuses(t *testing.T) {
	x := begin(t)
	x.sets(api.ErrSealed, 0, 0, 1, addresses)
	x.has(0, 0)
	x.sets(nil, 7, 5)
	for _, epoch := range noEpochs() {
		x.sets(api.ErrRange, epoch, append(beyond(), 0, 5, 6, addresses)...)
	}
	for _, epoch := range []int{0, 1, 6, 7} {
		x.sets(api.ErrRange, epoch, beyond()...)
		x.sets(api.ErrSealed, epoch, 0, 5, 6, addresses)
	}
	for _, epoch := range []int{8, epochs} {
		x.sets(api.ErrRange, epoch, beyond()...)
	}
	x.has(7, 5)
}

// P12.1: Tail, Epoch.

func TestTail(t *testing.T) {
	x := begin(t)
	x.sets(nil, 7, 5)
	x.takes(7, 2, 5, nil)
	x.tells(7, 7, nil)
	for _, epoch := range []int{6, 0, -1, math.MinInt} {
		x.tells(epoch, 0, api.ErrSealed)
	}
	for _, epoch := range []int{8, epochs, epochs + 1, math.MaxInt} {
		x.tells(epoch, 0, api.ErrEpoch)
	}
	if x.s.Epoch() != 7 {
		t.Error(x.s.Epoch())
	}
}

// P12.1: a nil one goes ahead of all other errors.
func TestNil(t *testing.T) {
	var s *seq.Sequencer
	for _, n := range []int{0, 1, -1, 65, addresses + 1, epochs + 1, math.MinInt, math.MaxInt} {
		for _, epoch := range []int{0, 1, -1, epochs + 1, math.MinInt, math.MaxInt} {
			if first, err := s.Take(epoch, n); first != 0 || err != api.ErrNone {
				t.Error(first, err)
			}
			if err := s.Raise(epoch, n); err != api.ErrNone {
				t.Error(err)
			}
			if err := s.Set(epoch, n); err != api.ErrNone {
				t.Error(err)
			}
			if next, err := s.Tail(epoch); next != 0 || err != api.ErrNone {
				t.Error(next, err)
			}
		}
	}
	if s.Epoch() != 0 {
		t.Error(s.Epoch())
	}
}

func pick(r *rand.Rand, list []int) int { return list[r.Intn(len(list))] }

// drawEpoch is the sequencer's own one most of the time.
func drawEpoch(r *rand.Rand, own int) int {
	switch r.Intn(10) {
	case 0:
		return own - 1 - r.Intn(2)
	case 1:
		return own + 1 + r.Intn(2)
	case 2:
		return pick(r, append(noEpochs(), 0, 1, epochs))
	}
	return own
}

// drawNext is near a next address, or near the end, most of the time.
func drawNext(r *rand.Rand, next int) int {
	switch r.Intn(8) {
	case 0:
		return pick(r, beyond())
	case 1:
		return addresses - r.Intn(100)
	case 2:
		return r.Intn(addresses + 1)
	}
	return min(max(next+r.Intn(100)-50, 0), addresses)
}

// P12.1: in any order. P12.2: within an epoch no address is given away twice, nor one below what was raised to.
func TestAnyOrder(t *testing.T) {
	for seed := range int64(300) {
		r := rand.New(rand.NewSource(seed))
		x := begin(t)
		given, least := map[int]bool{}, 0
		for range 80 {
			own, next := x.p.epoch, x.p.next()
			switch n := r.Intn(20); {
			case n < 12:
				many := 1 + r.Intn(most)
				if r.Intn(8) == 0 {
					many = pick(r, noManies())
				}
				first, err := x.take(drawEpoch(r, own), many)
				for address := first; err == nil && address < first+many; address++ {
					if given[address] || address < least || address >= addresses {
						t.Fatalf("seed %d: %d is given away", seed, address)
					}
					given[address] = true
				}
			case n < 16:
				to := drawNext(r, next)
				if x.raise(drawEpoch(r, own), to) == nil {
					least = max(least, to)
				}
			default:
				epoch := drawEpoch(r, own+r.Intn(2))
				if r.Intn(4) > 0 && epoch > 1<<32 { // else soon no later epoch is left
					epoch = 0
				}
				to := drawNext(r, next)
				if x.set(epoch, to) == nil {
					clear(given)
					least = to
				}
			}
		}
	}
}

func ExampleSequencer_Take() {
	s := seq.New()
	a, _ := s.Take(0, 2)
	b, _ := s.Take(0, 1)
	tail, err := s.Tail(0)
	fmt.Println(a, b, tail, err)
	// Output: 0 2 3 <nil>
}
