package proj_test

import (
	"math"
	"math/rand"
	"slices"
	"testing"

	"holdfast/api"
	"holdfast/proj"
)

type step struct {
	p            proj.Projection
	dead, spares []int
	want         proj.Projection
}

// steps is what follows what.
func steps() []step {
	four := of(1, chain(0, 1), chain(2, 3))
	return []step{
		// The chapter's and the document's own.
		{four, chain(1), chain(4), of(2, chain(0, 4), chain(2, 3))},
		{of(1, chain(0, 1)), chain(0), chain(3), of(2, chain(1, 3))},
		// Nothing changes but the epoch.
		{four, nil, nil, of(2, chain(0, 1), chain(2, 3))},
		{four, nil, chain(4, 5), of(2, chain(0, 1), chain(2, 3))},
		{four, chain(4, 5, 6, 7), chain(4, 5), of(2, chain(0, 1), chain(2, 3))},
		{of(0, chain(5)), nil, chain(0), of(1, chain(5))},
		{of(epochs-1, chain(5)), nil, nil, of(epochs, chain(5))},
		{of(epochs-1, chain(5, 1)), chain(5), chain(2), of(epochs, chain(1, 2))},
		// No spares: a chain is shorter.
		{four, chain(0), nil, of(2, chain(1), chain(2, 3))},
		{four, chain(0, 3), nil, of(2, chain(1), chain(2))},
		{of(1, chain(3, 2, 1, 0)), chain(2, 0), nil, of(2, chain(3, 1))},
		{of(1, chain(3, 2, 1, 0)), chain(0, 1, 2), nil, of(2, chain(3))},
		{of(1, chain(6, 4, 2)), chain(4), nil, of(2, chain(6, 2))},
		// Fewer spares than dead: the first chain goes ahead.
		{four, chain(0, 2), chain(4), of(2, chain(1, 4), chain(3))},
		{of(1, chain(0, 1, 2), chain(3, 4)), chain(0, 1, 3), chain(6), of(2, chain(2, 6), chain(4))},
		{of(1, chain(0, 1, 2), chain(3, 4)), chain(0, 1, 3), chain(7, 6), of(2, chain(2, 7, 6), chain(4))},
		// As many, in their own order, and more.
		{four, chain(0, 2), chain(5, 4), of(2, chain(1, 5), chain(3, 4))},
		{four, chain(2, 0), chain(5, 4), of(2, chain(1, 5), chain(3, 4))},
		{four, chain(2, 0), chain(4, 7, 6, 5), of(2, chain(1, 4), chain(3, 7))},
		{of(1, chain(0, 1, 2, 3)), chain(3, 1, 0), chain(7, 4, 6, 5), of(2, chain(2, 7, 4, 6))},
		{of(1, chain(0), chain(1, 2)), chain(1), chain(3), of(2, chain(0), chain(2, 3))},
		// Spares that are dead, in a chain, or told twice.
		{four, chain(1, 4), chain(4, 5), of(2, chain(0, 5), chain(2, 3))},
		{four, chain(1, 4), chain(4), of(2, chain(0), chain(2, 3))},
		{four, chain(1), chain(1), of(2, chain(0), chain(2, 3))},
		{four, chain(1), chain(1, 1, 4), of(2, chain(0, 4), chain(2, 3))},
		{four, chain(1), chain(0, 2, 3), of(2, chain(0), chain(2, 3))},
		{four, chain(1), chain(3, 6), of(2, chain(0, 6), chain(2, 3))},
		{four, chain(3), chain(0, 2), of(2, chain(0, 1), chain(2))},
		{four, chain(1, 3), chain(4, 4), of(2, chain(0, 4), chain(2))},
		{four, chain(1, 3), chain(4, 4, 5), of(2, chain(0, 4), chain(2, 5))},
		{four, chain(1, 3), chain(5, 4, 5, 4), of(2, chain(0, 5), chain(2, 4))},
		{of(1, chain(0, 1, 2, 3)), chain(0, 1, 2), chain(4, 4, 4), of(2, chain(3, 4))},
		{four, chain(1, 3), chain(3, 1, 0, 2), of(2, chain(0), chain(2))},
		// Dead ones that are told twice, or in no chain.
		{four, chain(1, 1, 1), chain(4, 5), of(2, chain(0, 4), chain(2, 3))},
		{four, chain(7, 1, 6), chain(6, 5), of(2, chain(0, 5), chain(2, 3))},
		// Many.
		{of(9, chain(0, 1), chain(2, 3), chain(4), chain(5)), chain(0, 2), chain(7, 6), of(10, chain(1, 7), chain(3, 6), chain(4), chain(5))},
		{four, slices.Repeat(chain(1), 100000), slices.Repeat(chain(1, 2, 4), 100000), of(2, chain(0, 4), chain(2, 3))},
	}
}

// P11.1: Next.

func TestNext(t *testing.T) {
	for _, c := range steps() {
		if got, err := proj.Next(c.p, c.dead, c.spares); show(got) != show(c.want) || err != nil {
			t.Errorf("%s, %.10d dead, %.10d spare: %s, %v, want %s", show(c.p), c.dead, c.spares, show(got), err, show(c.want))
		}
	}
}

func TestNextThatThereIsNone(t *testing.T) {
	four, last := of(1, chain(0, 1), chain(2, 3)), of(epochs, chain(0, 1), chain(2, 3))
	type refusal struct {
		p            proj.Projection
		dead, spares []int
		want         error
	}
	list := []refusal{
		// The last epoch.
		{last, nil, nil, api.ErrFull},
		{last, chain(1), chain(4), api.ErrFull},
		{last, chain(0, 1), nil, api.ErrFull},
		{last, chain(8), nil, api.ErrRange},
		{last, nil, chain(-1), api.ErrRange},
		// A chain of which nothing is left, whatever the spares.
		{four, chain(0, 1), nil, api.ErrState},
		{four, chain(1, 0), chain(4, 5), api.ErrState},
		{four, chain(3, 1, 2), chain(4, 5), api.ErrState},
		{four, chain(0, 1, 2, 3), chain(4, 5, 6, 7), api.ErrState},
		{four, chain(0, 1), chain(0, 1), api.ErrState},
		{of(1, chain(5)), chain(5), chain(6), api.ErrState},
		{of(1, chain(0), chain(1)), chain(1), chain(6), api.ErrState},
		{of(1, chain(4, 5, 6, 7)), chain(7, 6, 5, 4), chain(0, 1, 2, 3), api.ErrState},
		{four, chain(0, 1, 8), nil, api.ErrRange},
		{four, chain(0, 1), chain(8), api.ErrRange},
	}
	for _, u := range wrongUnits() {
		for _, units := range [][]int{chain(u), chain(1, u), chain(u, 1), chain(4, 5, 4, u)} {
			list = append(list, refusal{four, units, nil, api.ErrRange}, refusal{four, nil, units, api.ErrRange})
			list = append(list, refusal{four, units, chain(4), api.ErrRange}, refusal{four, chain(1), units, api.ErrRange})
		}
	}
	for _, c := range wrongProjections() {
		for _, units := range [][]int{nil, chain(0), chain(1), chain(-1), chain(8), chain(0, 1, 2, 3, 4, 5, 6, 7)} {
			list = append(list, refusal{c.p, units, nil, c.want}, refusal{c.p, nil, units, c.want})
		}
	}
	for _, c := range list {
		if got, err := proj.Next(c.p, c.dead, c.spares); show(got) != show(proj.Projection{}) || err != c.want {
			t.Errorf("%s, %v dead, %v spare: %s, %v, want %v", show(c.p), c.dead, c.spares, show(got), err, c.want)
		}
	}
}

// rightNext asks whether what follows is what it is told to be, and P11.2 of it.
func rightNext(t *testing.T, p proj.Projection, dead, spares []int) error {
	t.Helper()
	got, err := proj.Next(p, dead, spares)
	want, wantErr := plainNext(p, dead, spares)
	if err != wantErr || !proj.Same(got, want) {
		t.Fatalf("%s, %v dead, %v spare: %s, %v, want %s, %v", show(p), dead, spares, show(got), err, show(want), wantErr)
	}
	if err != nil {
		return err
	}
	if err := proj.Check(got); err != nil || got.Epoch != p.Epoch+1 || len(got.Chains) != len(p.Chains) {
		t.Fatalf("%s, %v dead, %v spare: %s isn't right: %v", show(p), dead, spares, show(got), err)
	}
	for i, c := range p.Chains {
		alive := slices.DeleteFunc(slices.Clone(c), func(u int) bool { return slices.Contains(dead, u) })
		if len(got.Chains[i]) > len(c) || len(alive) > len(got.Chains[i]) || !slices.Equal(got.Chains[i][:len(alive)], alive) {
			t.Fatalf("%s, %v dead, %v spare: %s: chain %d doesn't keep %v", show(p), dead, spares, show(got), i, alive)
		}
	}
	return nil
}

// P11.1, P11.2: all ways to lay some of four units in up to three chains, with up to two dead, and up to three spares of five.
func TestNextOfAllSmallOnes(t *testing.T) {
	deads, spareLists := rows(chain(0, 1, 2, 3, 4), 2), rows(chain(0, 1, 3, 4, 7), 3)
	for _, chains := range layouts(3, 3, 3) {
		for _, dead := range deads {
			for _, spares := range spareLists {
				rightNext(t, of(1, chains...), dead, spares)
			}
		}
	}
}

// P11.1, P11.2: of anything.
func TestAnyNext(t *testing.T) {
	r := rand.New(rand.NewSource(14))
	told := map[error]int{}
	for range 100000 {
		p := draw(r)
		if r.Intn(10) == 0 {
			p = drawAny(r)
		}
		told[rightNext(t, p, drawUnits(r, 4, 50), drawUnits(r, 12, 100))]++
	}
	for _, err := range []error{nil, api.ErrRange, api.ErrForm, api.ErrFull, api.ErrState} {
		if told[err] < 500 {
			t.Errorf("only %d are %v", told[err], err)
		}
	}
}

// P11.2: one behind the other, units that die and come again.
func TestNextOfNext(t *testing.T) {
	r := rand.New(rand.NewSource(15))
	for range 200 {
		p := draw(r)
		p.Epoch = r.Intn(100)
		for range 60 {
			dead, spares := drawUnits(r, 2, math.MaxInt32), drawUnits(r, 6, math.MaxInt32)
			if rightNext(t, p, dead, spares) != nil {
				continue
			}
			next, err := proj.Next(p, dead, spares)
			if err != nil {
				t.Fatal(err)
			}
			p = next
		}
	}
}
