package seq_test

import (
	"math"
	"testing"

	"holdfast/api"
	"holdfast/seq"
)

const (
	epochs    = 1 << 40
	addresses = 1 << 20
	most      = 64
)

// noManies is numbers of which no addresses are taken.
func noManies() []int {
	return []int{0, -1, -2, most + 1, most + 2, 1<<32 + 1, math.MinInt, math.MinInt + 1, math.MaxInt, math.MaxInt - 1}
}

// beyond is numbers that are neither an address, nor that behind the last one.
func beyond() []int {
	return []int{-1, -2, addresses + 1, addresses + 2, 1<<32 + 1, math.MinInt, math.MinInt + 1, math.MaxInt}
}

// noEpochs is numbers that are no epoch.
func noEpochs() []int {
	return []int{-1, -2, epochs + 1, epochs + 2, 1 << 41, math.MinInt, math.MaxInt}
}

func between(n, last int) bool { return !(n < 0 || n > last) }

// step is what was done: t took so many, r raised to an address, s set an address with a later epoch.
type step struct {
	op byte
	n  int
}

// plain is a sequencer as the chapter tells it, told once more: the next address is worked out from all that was done.
type plain struct {
	epoch int
	done  []step
}

func (p *plain) next() int {
	next := 0
	for _, s := range p.done {
		switch {
		case s.op == 't':
			next += s.n
		case s.op == 's' || s.n > next:
			next = s.n
		}
	}
	return next
}

func (p *plain) asked(epoch int) error {
	switch {
	case epoch == p.epoch:
		return nil
	case epoch < p.epoch:
		return api.ErrSealed
	}
	return api.ErrEpoch
}

func (p *plain) take(epoch, many int) (int, error) {
	first := p.next()
	if many <= 0 || many >= most+1 {
		return 0, api.ErrRange
	}
	if err := p.asked(epoch); err != nil {
		return 0, err
	}
	if first > addresses-many {
		return 0, api.ErrFull
	}
	p.done = append(p.done, step{'t', many})
	return first, nil
}

func (p *plain) raise(epoch, next int) error {
	if !between(next, addresses) {
		return api.ErrRange
	}
	if err := p.asked(epoch); err != nil {
		return err
	}
	p.done = append(p.done, step{'r', next})
	return nil
}

func (p *plain) set(epoch, next int) error {
	switch {
	case !between(epoch, epochs) || !between(next, addresses):
		return api.ErrRange
	case p.epoch >= epoch:
		return api.ErrSealed
	}
	p.epoch, p.done = epoch, append(p.done, step{'s', next})
	return nil
}

// pair is a sequencer, and a plain one: whatever is asked is asked of both, and all that both tell is held against each other.
type pair struct {
	t *testing.T
	s *seq.Sequencer
	p *plain
}

func begin(t *testing.T) *pair {
	t.Helper()
	x := &pair{t, seq.New(), &plain{}}
	x.has(0, 0)
	return x
}

// takes takes by an epoch, and wants these addresses, or that error.
func (x *pair) takes(epoch, many, first int, want error) {
	x.t.Helper()
	if got, err := x.take(epoch, many); got != first || err != want {
		x.t.Fatalf("Take(%d, %d) = %d, %v, want %d, %v", epoch, many, got, err, first, want)
	}
}

func (x *pair) take(epoch, many int) (int, error) {
	x.t.Helper()
	got, err := x.s.Take(epoch, many)
	if first, want := x.p.take(epoch, many); got != first || err != want {
		x.t.Fatalf("Take(%d, %d) = %d, %v, the plain one %d, %v", epoch, many, got, err, first, want)
	}
	x.same()
	return got, err
}

// raises raises to addresses by an epoch, one behind the other, and wants that answer of each.
func (x *pair) raises(want error, epoch int, list ...int) {
	x.t.Helper()
	for _, next := range list {
		if err := x.raise(epoch, next); err != want {
			x.t.Fatalf("Raise(%d, %d) = %v, want %v", epoch, next, err, want)
		}
	}
}

func (x *pair) raise(epoch, next int) error {
	x.t.Helper()
	err := x.s.Raise(epoch, next)
	if want := x.p.raise(epoch, next); err != want {
		x.t.Fatalf("Raise(%d, %d) = %v, the plain one %v", epoch, next, err, want)
	}
	x.same()
	return err
}

// sets sets addresses by an epoch, one behind the other, and wants that answer of each.
func (x *pair) sets(want error, epoch int, list ...int) {
	x.t.Helper()
	for _, next := range list {
		if err := x.set(epoch, next); err != want {
			x.t.Fatalf("Set(%d, %d) = %v, want %v", epoch, next, err, want)
		}
	}
}

func (x *pair) set(epoch, next int) error {
	x.t.Helper()
	err := x.s.Set(epoch, next)
	if want := x.p.set(epoch, next); err != want {
		x.t.Fatalf("Set(%d, %d) = %v, the plain one %v", epoch, next, err, want)
	}
	x.same()
	return err
}

// has wants that epoch, and that next address.
func (x *pair) has(epoch, next int) {
	x.t.Helper()
	if got, err := x.s.Tail(epoch); got != next || err != nil || x.s.Epoch() != epoch {
		x.t.Fatalf("tail %d, %v, epoch %d, want %d, epoch %d", got, err, x.s.Epoch(), next, epoch)
	}
	x.same()
}

// same holds what both tell against each other, by each epoch that may matter.
func (x *pair) same() {
	x.t.Helper()
	x.tells(x.p.epoch, x.p.next(), nil)
	for _, epoch := range append(noEpochs(), 0, 1, x.p.epoch-1, x.p.epoch+1, epochs) {
		if err := x.p.asked(epoch); err != nil {
			x.tells(epoch, 0, err)
		}
	}
	if got := x.s.Epoch(); got != x.p.epoch {
		x.t.Fatalf("Epoch() = %d, want %d", got, x.p.epoch)
	}
}

// tells wants that tail by an epoch, or that error.
func (x *pair) tells(epoch, next int, want error) {
	x.t.Helper()
	if got, err := x.s.Tail(epoch); got != next || err != want {
		x.t.Fatalf("Tail(%d) = %d, %v, want %d, %v", epoch, got, err, next, want)
	}
}
