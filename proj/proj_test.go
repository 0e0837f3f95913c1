package proj_test

import (
	"math"
	"math/rand"
	"slices"
	"testing"

	"holdfast/api"
	"holdfast/proj"
)

// goodProjections is projections, no two of them the same.
func goodProjections() []proj.Projection {
	return []proj.Projection{
		of(0, chain(0)),
		of(1, chain(0)),
		of(127, chain(0)),
		of(128, chain(0)),
		of(epochs-1, chain(0)),
		of(epochs, chain(0)),
		of(0, chain(7)),
		of(0, chain(0, 1)),
		of(0, chain(1, 0)),
		of(0, chain(0), chain(1)),
		of(0, chain(1), chain(0)),
		of(0, chain(0, 1, 2, 3)),
		of(0, chain(4, 5, 6, 7)),
		of(0, chain(3, 2, 1, 0)),
		of(3, chain(0, 1), chain(2, 3)),
		of(3, chain(0, 1), chain(2, 3), chain(4, 5)),
		of(3, chain(0), chain(1), chain(2), chain(3)),
		of(3, chain(7), chain(5), chain(6), chain(4)),
		of(3, chain(0, 1), chain(2, 3), chain(4, 5), chain(6, 7)),
		of(3, chain(7, 6), chain(5, 4), chain(3, 2), chain(1, 0)),
		of(3, chain(0, 1, 2, 3), chain(4, 5, 6, 7)),
		of(3, chain(0, 1, 2, 3), chain(4, 5), chain(6), chain(7)),
		of(3, chain(0), chain(1, 2, 3, 4), chain(5, 6, 7)),
	}
}

type fault struct {
	p    proj.Projection
	want error
}

// wrongProjections is what is no projection, and what is said of it.
func wrongProjections() []fault {
	five := chain(0, 1, 2, 3, 4)
	list := []fault{
		{of(-1, chain(0)), api.ErrRange},
		{of(epochs+1, chain(0)), api.ErrRange},
		{of(math.MinInt, chain(0)), api.ErrRange},
		{of(math.MaxInt, chain(0)), api.ErrRange},
		// How many there are.
		{proj.Projection{}, api.ErrForm},
		{proj.Projection{Chains: [][]int{}}, api.ErrForm},
		{of(0, nil), api.ErrForm},
		{of(0, chain()), api.ErrForm},
		{of(0, chain(0), nil), api.ErrForm},
		{of(0, nil, chain(0)), api.ErrForm},
		{of(0, chain(0), chain(1), chain(2), chain()), api.ErrForm},
		{of(0, five), api.ErrForm},
		{of(0, chain(5), five), api.ErrForm},
		{of(0, five, chain(5)), api.ErrForm},
		{of(0, chain(0, 1, 2, 3, 4, 5, 6, 7)), api.ErrForm},
		{of(0, chain(0), chain(1), chain(2), chain(3), chain(4)), api.ErrForm},
		{of(0, chain(0), chain(1), chain(2), chain(3), nil), api.ErrForm},
		{of(0, make([][]int, 100000)...), api.ErrForm},
		{of(0, make([]int, 100000)), api.ErrForm},
		// One in two places.
		{of(0, chain(0, 0)), api.ErrForm},
		{of(0, chain(7, 1, 7)), api.ErrForm},
		{of(0, chain(3), chain(3)), api.ErrForm},
		{of(0, chain(0, 1), chain(2, 0)), api.ErrForm},
		{of(0, chain(0, 1, 2, 3), chain(4, 5, 6, 0)), api.ErrForm},
		{of(0, chain(0), chain(1), chain(2), chain(0)), api.ErrForm},
		{of(0, chain(0, 1, 2), chain(3, 4, 5), chain(6, 7, 0)), api.ErrForm},
		{of(0, chain(0, 1, 2, 3), chain(4, 5, 6, 7), chain(7)), api.ErrForm},
		// The epoch goes ahead of all, then how many there are, then what is no unit.
		{of(-1), api.ErrRange},
		{of(epochs+1, five), api.ErrRange},
		{of(epochs+1, chain(0, 0)), api.ErrRange},
		{of(0, chain(8), nil), api.ErrForm},
		{of(0, chain(-1), five), api.ErrForm},
		{of(0, chain(8, 8, 8, 8, 8)), api.ErrForm},
		{of(0, chain(8), chain(1), chain(2), chain(3), chain(4)), api.ErrForm},
		{of(0, chain(0, 0), chain(8)), api.ErrRange},
		{of(0, chain(0, 0, 8)), api.ErrRange},
		{of(0, chain(8, 8)), api.ErrRange},
		{of(0, chain(0, 0, 1, 1), chain(2, 2, 1, 1), chain(3, 3, 3, -1)), api.ErrRange},
	}
	for _, u := range wrongUnits() {
		list = append(list,
			fault{of(0, chain(u)), api.ErrRange},
			fault{of(0, chain(0, 1, 2, u)), api.ErrRange},
			fault{of(0, chain(0), chain(u, 1)), api.ErrRange},
			fault{of(epochs, chain(0), chain(1), chain(2), chain(3, u)), api.ErrRange},
		)
	}
	return list
}

// P11.1: Check.

func TestCheck(t *testing.T) {
	for _, p := range goodProjections() {
		if err := proj.Check(p); err != nil {
			t.Errorf("%s: %v", show(p), err)
		}
	}
	for _, c := range wrongProjections() {
		if err := proj.Check(c.p); err != c.want {
			t.Errorf("%s: %v, want %v", show(c.p), err, c.want)
		}
	}
	for _, epoch := range epochsAround() {
		p := of(epoch, chain(0))
		if err := proj.Check(p); err != plainCheck(p) {
			t.Errorf("%s: %v, want %v", show(p), err, plainCheck(p))
		}
	}
}

// All chains of up to three units of -1, 0, 1, 7, 8, two of them together; and how many there are, one by one.
func TestCheckOfAllSmallOnes(t *testing.T) {
	small := rows([]int{-1, 0, 1, 7, 8}, 3)
	for _, a := range small {
		for _, b := range small {
			p := of(1, a, b)
			if err := proj.Check(p); err != plainCheck(p) {
				t.Fatalf("%s: %v, want %v", show(p), err, plainCheck(p))
			}
		}
	}
	for _, sizes := range rows([]int{0, 1, 2, 4, 5}, 5) {
		p, u := of(1), 0
		for _, size := range sizes {
			var c []int
			for range size {
				c = append(c, u)
				u = (u + 1) % 8
			}
			p.Chains = append(p.Chains, c)
		}
		if err := proj.Check(p); err != plainCheck(p) {
			t.Fatalf("%s: %v, want %v", show(p), err, plainCheck(p))
		}
	}
}

func TestAnyProjection(t *testing.T) {
	r := rand.New(rand.NewSource(11))
	right := 0
	for range 50000 {
		p := drawAny(r)
		want := plainCheck(p)
		if want == nil {
			right++
		}
		if err := proj.Check(p); err != want {
			t.Fatalf("%s: %v, want %v", show(p), err, want)
		}
		if _, err := proj.Put(p); err != want {
			t.Fatalf("%s: Put: %v, want %v", show(p), err, want)
		}
		if got := proj.Units(p); !slices.Equal(got, plainUnits(p)) {
			t.Fatalf("%s: units %v", show(p), got)
		}
		if got := proj.Copy(p); !proj.Same(got, p) || show(got) != show(p) {
			t.Fatalf("%s: copy %s", show(p), show(got))
		}
	}
	if right < 5000 || right > 45000 {
		t.Errorf("%d of 50000 are right", right)
	}
}

// P11.1: Home.

func TestHome(t *testing.T) {
	for _, p := range goodProjections() {
		many := len(p.Chains)
		for _, address := range []int{0, 1, 2, 3, 4, 5, 6, 7, 12, 13, 14, 15, 1000, 65537, addresses - 5, addresses - 4, addresses - 3, addresses - 2, addresses - 1} {
			want := address - address/many*many
			if got, err := proj.Home(p, address); got != want || err != nil {
				t.Errorf("%s at %d: %d, %v, want %d", show(p), address, got, err, want)
			}
		}
		for _, address := range []int{-1, -2, -4, addresses, addresses + 1, 1 << 32, 1<<32 + 1, math.MinInt, math.MaxInt} {
			if got, err := proj.Home(p, address); got != 0 || err != api.ErrRange {
				t.Errorf("%s at %d: %d, %v, want ErrRange", show(p), address, got, err)
			}
		}
	}
	for _, c := range wrongProjections() {
		for _, address := range []int{0, 1, 5, addresses - 1, -1, addresses} {
			if got, err := proj.Home(c.p, address); got != 0 || err != c.want {
				t.Errorf("%s at %d: %d, %v, want %v", show(c.p), address, got, err, c.want)
			}
		}
	}
}

// Chain by chain, and from the first one again.
func TestHomesFollowOneAnother(t *testing.T) {
	for _, p := range []proj.Projection{of(1, chain(4)), of(1, chain(0, 1), chain(2)), of(1, chain(0), chain(1), chain(2)), of(1, chain(3), chain(2), chain(1), chain(0))} {
		want := 0
		for address := range addresses {
			if got, err := proj.Home(p, address); got != want || err != nil {
				t.Fatalf("%s at %d: %d, %v, want %d", show(p), address, got, err, want)
			}
			want++
			if want == len(p.Chains) {
				want = 0
			}
		}
	}
}

// P11.1: Units.

// plainUnits is Units as the chapter tells it, told once more: the least one that is above the last, again and again.
func plainUnits(p proj.Projection) []int {
	var list []int
	for {
		least, found := 0, false
		for _, c := range p.Chains {
			for _, u := range c {
				if (len(list) == 0 || u > list[len(list)-1]) && (!found || u < least) {
					least, found = u, true
				}
			}
		}
		if !found {
			return list
		}
		list = append(list, least)
	}
}

func TestUnits(t *testing.T) {
	for _, c := range []struct {
		p    proj.Projection
		want []int
	}{
		{of(1, chain(0)), chain(0)},
		{of(1, chain(3, 0), chain(7, 1)), chain(0, 1, 3, 7)},
		{of(1, chain(7, 6), chain(5, 4), chain(3, 2), chain(1, 0)), chain(0, 1, 2, 3, 4, 5, 6, 7)},
		// Of what is no projection, too.
		{proj.Projection{}, nil},
		{of(1, nil, chain()), nil},
		{of(-1, chain(2, 1)), chain(1, 2)},
		{of(epochs+1, chain(2, 1), nil), chain(1, 2)},
		{of(1, chain(5, 5), chain(2, 5), chain(2)), chain(2, 5)},
		{of(1, chain(1, 2, 1, 2, 1, 2)), chain(1, 2)},
		{of(1, chain(4), chain(3), chain(2), chain(1), chain(0)), chain(0, 1, 2, 3, 4)},
		{of(1, chain(9, 8, -1, 9), chain(math.MaxInt, math.MinInt, 0)), chain(math.MinInt, -1, 0, 8, 9, math.MaxInt)},
	} {
		if got := proj.Units(c.p); !slices.Equal(got, c.want) {
			t.Errorf("%s: %v, want %v", show(c.p), got, c.want)
		}
	}
}

// P11.1: Same, Copy.

func TestSame(t *testing.T) {
	list := append(goodProjections(),
		proj.Projection{},
		of(1),
		of(-1, chain(0)),
		of(0, nil),
		of(0, nil, nil),
		of(0, chain(0), nil),
		of(0, nil, chain(0)),
		of(0, chain(0, 0)),
		of(0, chain(0), chain(0)),
		of(0, chain(0, 1, 2, 3, 4)),
		of(0, chain(8)),
		of(0, chain(-1)),
		of(0, chain(256)),
		of(math.MinInt, chain(0)),
		of(math.MaxInt, chain(0)),
	)
	for i, a := range list {
		for j, b := range list {
			if got := proj.Same(a, b); got != (i == j) {
				t.Errorf("Same(%s, %s) = %v", show(a), show(b), got)
			}
		}
	}
}

// Nil and empty lists mean the same.
func TestNothingIsSame(t *testing.T) {
	for _, c := range [][2]proj.Projection{
		{{}, {Chains: [][]int{}}},
		{of(3, nil), of(3, chain())},
		{of(3, chain(0), nil), of(3, chain(0), chain())},
		{of(3, chain(0)[:0], chain(1)), of(3, nil, chain(1))},
	} {
		if !proj.Same(c[0], c[1]) || !proj.Same(c[1], c[0]) {
			t.Errorf("%s and %s", show(c[0]), show(c[1]))
		}
		for _, p := range c {
			if got := proj.Copy(p); !proj.Same(got, p) {
				t.Errorf("%s: copy %s", show(p), show(got))
			}
		}
	}
}

func TestCopy(t *testing.T) {
	list := goodProjections()
	for _, c := range wrongProjections() {
		list = append(list, c.p)
	}
	for _, p := range list {
		if got := proj.Copy(p); !proj.Same(got, p) || show(got) != show(p) {
			t.Errorf("%s: copy %s", show(p), show(got))
		}
	}
}

// roomy is a projection whose lists have room behind them, in which other numbers stand; all is all that they have.
func roomy() (p proj.Projection, all [][]int) {
	numbers := []int{0, 1, 9, 9, 9, 2, 3, 9, 9, 9}
	chains := [][]int{numbers[0:2], numbers[5:7], {9}, {9}}
	return proj.Projection{Epoch: 4, Chains: chains[:2]}, append(slices.Clone(chains), numbers)
}

// P11.1: what is handed in is neither changed nor kept, nor is its room.
func TestArgumentsStay(t *testing.T) {
	p, all := roomy()
	dead, spares := []int{3, 1, 3, 9, 9}[:3], []int{6, 4, 6, 5, 9, 9}[:4]
	var was [][]int
	for _, l := range all {
		was = append(was, slices.Clone(l))
	}
	next, err := proj.Next(p, dead, spares)
	if err != nil {
		t.Fatal(err)
	}
	b, err := proj.Put(p)
	if err != nil {
		t.Fatal(err)
	}
	c, units := proj.Copy(p), proj.Units(p)
	if _, err := proj.Home(p, 1); err != nil || !proj.Same(p, c) {
		t.Error(err)
	}
	for i, l := range all {
		if !slices.Equal(l, was[i]) {
			t.Errorf("list %d is %v, was %v", i, l, was[i])
		}
	}
	if !slices.Equal(dead[:5], chain(3, 1, 3, 9, 9)) || !slices.Equal(spares[:6], chain(6, 4, 6, 5, 9, 9)) {
		t.Error(dead[:5], spares[:6])
	}
	for _, l := range append(all, dead[:5], spares[:6]) {
		for i := range l {
			l[i] = 77
		}
	}
	all[0], p.Chains[0], p.Chains[1] = nil, nil, nil
	if show(next) != show(of(5, chain(0, 6), chain(2, 4))) {
		t.Error(show(next))
	}
	if show(c) != show(of(4, chain(0, 1), chain(2, 3))) || !slices.Equal(units, chain(0, 1, 2, 3)) {
		t.Error(show(c), units)
	}
	if string(b) != string(framed(number(4, 2, 2, 0, 1, 2, 2, 3))) {
		t.Error(b)
	}
}

// ownLists asks whether each chain is memory of its own: what is put behind one, or into it, is in no other.
func ownLists(t *testing.T, p proj.Projection, again func() proj.Projection) {
	t.Helper()
	for i := range p.Chains {
		want := show(again())
		got := again()
		full := got.Chains[i][:cap(got.Chains[i])]
		kept := slices.Clone(got.Chains[i])
		for j := range full {
			full[j] = 99
		}
		copy(got.Chains[i], kept)
		if show(got) != want || show(again()) != want {
			t.Errorf("chain %d of %s shares memory: %s, %s", i, want, show(got), show(again()))
		}
	}
}

// P11.1: no two lists of an answer share memory, and no two answers do.
func TestAnswersAreApart(t *testing.T) {
	p := of(4, chain(0, 1), chain(2, 3), chain(4, 5))
	ownLists(t, p, func() proj.Projection { return proj.Copy(p) })
	ownLists(t, p, func() proj.Projection {
		next, err := proj.Next(p, chain(1, 3, 4), chain(6, 7))
		if err != nil {
			t.Fatal(err)
		}
		return next
	})
	b, err := proj.Put(p)
	if err != nil {
		t.Fatal(err)
	}
	ownLists(t, p, func() proj.Projection {
		got, err := proj.Take(b)
		if err != nil {
			t.Fatal(err)
		}
		return got
	})
	units := proj.Units(p)
	units[0] = 99
	if !slices.Equal(proj.Units(p), chain(0, 1, 2, 3, 4, 5)) || show(p) != show(of(4, chain(0, 1), chain(2, 3), chain(4, 5))) {
		t.Error(proj.Units(p), show(p))
	}
}
