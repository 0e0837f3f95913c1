package seq_test

import (
	"runtime"
	"sync"
	"testing"

	"holdfast/api"
	"holdfast/seq"
)

// taken is what one of many who asked at one time was given.
type taken struct {
	many  int
	first []int
	wrong int // how often it was answered what it may not be
}

// takeTillFull takes till there is no room left, and looks at the tail behind each take.
func (a *taken) takeTillFull(s *seq.Sequencer, epoch int) {
	tail := 0
	for {
		first, err := s.Take(epoch, a.many)
		if err != nil {
			if first != 0 || err != api.ErrFull {
				a.wrong++
			}
			return
		}
		a.first = append(a.first, first)
		was := tail
		tail, err = s.Tail(epoch)
		if err != nil || tail < was || tail < first+a.many || tail > addresses || first < was {
			a.wrong++
		}
	}
}

// askWrongly asks what is refused, so many times.
func askWrongly(s *seq.Sequencer, epoch, times int) (wrong int) {
	for range times {
		_, elder := s.Take(epoch-1, 1)
		_, later := s.Take(epoch+1, 1)
		_, none := s.Take(epoch, 0)
		_, before := s.Tail(epoch - 1)
		_, behind := s.Tail(epoch + 1)
		if elder != api.ErrSealed || later != api.ErrEpoch || none != api.ErrRange || before != api.ErrSealed || behind != api.ErrEpoch {
			wrong++
		}
	}
	return wrong
}

// allTake lets many take at one time from a next address on: each takes as many as it is told. All addresses must be given away, each once.
func allTake(t *testing.T, s *seq.Sequencer, epoch, from int, manies ...int) {
	t.Helper()
	askers, refused := make([]taken, len(manies)), 0
	var start, all sync.WaitGroup
	start.Add(1)
	for i, many := range manies {
		askers[i].many = many
		all.Go(func() {
			start.Wait()
			askers[i].takeTillFull(s, epoch)
		})
	}
	all.Go(func() {
		start.Wait()
		refused = askWrongly(s, epoch, 100)
	})
	start.Done()
	all.Wait()
	if refused != 0 {
		t.Fatalf("%d answers to who asked wrongly", refused)
	}
	times := make([]int, addresses-from)
	for _, a := range askers {
		if a.wrong != 0 {
			t.Fatalf("%d wrong answers to who takes %d", a.wrong, a.many)
		}
		for _, first := range a.first {
			for i := range a.many {
				times[first-from+i]++
			}
		}
	}
	for i, n := range times {
		if n != 1 {
			t.Fatalf("%d was given away %d times", from+i, n)
		}
	}
	if tail, err := s.Tail(epoch); tail != addresses || err != nil {
		t.Fatal(tail, err)
	}
}

// atLeast lets goroutines run at one time, even on a machine that has one processor.
func atLeast(t *testing.T, processors int) {
	was := runtime.GOMAXPROCS(0)
	runtime.GOMAXPROCS(max(was, processors))
	t.Cleanup(func() { runtime.GOMAXPROCS(was) })
}

// P12.2: of all addresses.
func TestManyTakeAtOnce(t *testing.T) {
	atLeast(t, 4)
	s := seq.New()
	for i, manies := range [][]int{{1, 1, 1, 1, 1, 1, 1, 1}, {1, 2, 3, 5, 8, 13, 63, 64}, {1, 64, 64, 64}} {
		if err := s.Set(i+1, 0); err != nil {
			t.Fatal(err)
		}
		allTake(t, s, i+1, 0, manies...)
	}
}

// P12.2: of the last ones, where some find no room any more, and others do.
func TestManyTakeTheLastAtOnce(t *testing.T) {
	atLeast(t, 4)
	s := seq.New()
	for round := range 1000 {
		epoch, from := round+1, addresses-round%300
		if err := s.Set(epoch, 0); err != nil {
			t.Fatal(err)
		}
		if err := s.Raise(epoch, from); err != nil {
			t.Fatal(err)
		}
		allTake(t, s, epoch, from, 1, 1, 1, 2, 7, 30, 64)
	}
}
