package slog_test

import (
	"fmt"
	"math/rand"
	"slices"
	"testing"

	"holdfast/api"
	"holdfast/cell"
	"holdfast/disk"
	"holdfast/slog"
)

// drawChains is chains of some of so many units.
func drawChains(r *rand.Rand, units int) [][]int {
	order := r.Perm(units)
	var chains [][]int
	for len(order) > 0 && len(chains) < 4 && (len(chains) == 0 || r.Intn(3) > 0) {
		many := min(1+r.Intn(4), len(order))
		chains = append(chains, order[:many])
		order = order[many:]
	}
	return chains
}

func drawCell(r *rand.Rand) cell.Cell {
	switch r.Intn(12) {
	case 0:
		return cell.Cell{Kind: r.Intn(6) - 1, Data: make([]byte, r.Intn(2)*r.Intn(70))}
	case 1, 2, 3:
		return hole()
	}
	return data([]string{"x", "y"}[r.Intn(2)])
}

func drawPicks(r *rand.Rand) []bool {
	return []bool{r.Intn(2) == 0, r.Intn(2) == 0}[:r.Intn(3)]
}

// P13.1: any calls, in any order, whatever the fuses and cuts.
func TestAnyOrder(t *testing.T) {
	seeds := int64(300)
	if testing.Short() {
		seeds = 50
	}
	for seed := range seeds {
		r := rand.New(rand.NewSource(seed))
		units := 1 + r.Intn(8)
		x := begin(t, units, []int{60, 300, room}[r.Intn(3)]+r.Intn(60), drawChains(r, units)...)
		for range 60 {
			x.draw(r, units)
		}
	}
}

// draw does one call.
func (x *pair) draw(r *rand.Rand, units int) {
	x.t.Helper()
	address, u := r.Intn(12), r.Intn(units)
	if r.Intn(40) == 0 {
		address = looked[r.Intn(len(looked))]
	}
	if r.Intn(40) == 0 {
		u = r.Intn(12) - 2
	}
	switch r.Intn(24) {
	case 0, 1, 2, 3, 4, 5:
		x.append(long(r.Intn(4)))
	case 6, 7, 8:
		x.fill(address)
	case 9, 10, 11, 12:
		x.put(address, drawCell(r))
	case 13:
		x.trim(address / 2)
	case 14:
		x.cut(address)
	case 15, 16:
		x.rebuild(r.Perm(units)[:r.Intn(units+1)]...)
	case 17:
		x.rebuild(u)
	case 18:
		x.kill(u, drawPicks(r)...)
	case 19, 20:
		x.start(u)
	case 21:
		x.fuse(u, r.Intn(16)-1)
	case 22:
		x.compact(u)
	case 23:
		x.cutOrStart(r, r.Intn(units))
	}
}

// cutOrStart does to a disk itself what may be done to one at any time.
func (x *pair) cutOrStart(r *rand.Rand, u int) {
	x.t.Helper()
	if keep := drawPicks(r); r.Intn(2) == 0 {
		x.both(u, func(d *disk.Disk) { d.Cut(keep...) })
	} else {
		x.both(u, func(d *disk.Disk) { d.Start() })
	}
}

// log is a cluster, and what it was told without an error.
type log struct {
	t       *testing.T
	c       *slog.Cluster
	had     map[int]cell.Cell
	trimmed int // below that cells may be trimmed: what a Trim that failed did stays done
}

func newLog(t *testing.T, units int, chains ...[]int) *log {
	t.Helper()
	c, err := slog.New(units, room, chains)
	if err != nil {
		t.Fatal(err)
	}
	return &log{t: t, c: c, had: map[int]cell.Cell{}}
}

func (l *log) append(text string) {
	l.t.Helper()
	address, err := l.c.Append([]byte(text))
	if err != nil {
		return
	}
	if was, is := l.had[address]; is || address < l.c.Unit(l.c.Projection().Chains[0][0]).Low() {
		l.t.Fatal("given away again:", address, was)
	}
	l.had[address] = data(text)
}

func (l *log) put(address int, x cell.Cell) {
	if l.c.Put(address, x) == nil {
		l.had[address] = x
	}
}

func (l *log) fill(address int) {
	if l.c.Fill(address) == nil {
		l.had[address] = hole()
	}
}

func (l *log) trim(below int) {
	l.trimmed = max(l.trimmed, below)
	l.c.Trim(below)
}

// check asks whether what was told is read, or trimmed, or the answer is an error; if all is well, it isn't an error.
func (l *log) check(well bool, behind ...any) {
	l.t.Helper()
	for address, want := range l.had {
		x, err := l.c.Read(address)
		switch {
		case err != nil && !well:
		case err == nil && x.Kind == cell.Trimmed && address < l.trimmed:
		case err != nil || !cell.Same(x, want):
			l.t.Fatal(behind, address, x, err, "want", want, "\n"+show(l.c))
		}
	}
}

// history is calls of all kinds that a log is told.
func (l *log) history() []func() {
	return []func(){
		func() { l.append("a") }, func() { l.append("b") }, func() { l.put(5, data("c")) }, func() { l.fill(2) },
		func() { l.append("d") }, func() { l.put(7, hole()) }, func() { l.trim(1) }, func() { l.fill(5) }, func() { l.c.Rebuild(4) },
		func() { l.append("e") }, func() { l.fill(4) }, func() { l.c.Compact(1) }, func() { l.append("f") }, func() { l.trim(3) },
	}
}

// P13.2: the power of each unit goes at each of its operations, whatever is kept; then it comes again, or another one takes its place.
func TestWhereverThePowerGoes(t *testing.T) {
	for u := range 5 {
		for n := range 100 {
			for way := range 8 {
				l := newLog(t, 5, chain(0, 1), chain(2, 3))
				l.c.Fuse(u, n)
				for i, do := range l.history() {
					do()
					l.check(false, u, n, way, i)
					if !l.c.Able(u) {
						l.comesAgain(u, way)
						l.check(true, u, n, way, i, "again")
					}
				}
				if l.c.Rebuild() != nil {
					l.comesAgain(u, way)
				}
				l.check(true, u, n, way, "at the end")
			}
		}
	}
}

// comesAgain mends a cluster of which a unit's power went.
func (l *log) comesAgain(u, way int) {
	l.t.Helper()
	l.c.Kill(u, way&1 == 1, way&2 == 2)
	if way&4 == 4 {
		if err := l.c.Rebuild(4, 3, 2, 1, 0); err != nil {
			l.t.Fatal(err)
		}
	}
	if err := l.c.Start(u); err != nil {
		l.t.Fatal(err)
	}
	if err := l.c.Rebuild(); err != nil {
		l.t.Fatal(err)
	}
}

// P13.2: whatever units go off and on, and however the cluster is rebuilt.
func TestWhatWasToldStays(t *testing.T) {
	for seed := range int64(400) {
		r := rand.New(rand.NewSource(seed))
		units := 2 + r.Intn(7)
		l := newLog(t, units, drawChains(r, units)...)
		for i := range 150 {
			l.draw(r, units)
			l.check(false, seed, i)
			if r.Intn(30) == 0 {
				l.mend(r, units)
				l.check(true, seed, i)
			}
		}
		l.mend(r, units)
		l.check(true, seed)
	}
}

// draw does one call, but no Cut.
func (l *log) draw(r *rand.Rand, units int) {
	l.t.Helper()
	address, u := r.Intn(14), r.Intn(units)
	switch r.Intn(16) {
	case 0, 1, 2, 3, 4:
		l.append(fmt.Sprint(r.Intn(3)))
	case 5, 6:
		l.put(address, drawCell(r))
	case 7, 8:
		l.fill(address)
	case 9:
		l.trim(r.Intn(address/3 + 1))
	case 10:
		l.c.Rebuild(r.Perm(units)[:r.Intn(units+1)]...)
	case 11:
		l.c.Kill(u, drawPicks(r)...)
	case 12, 13:
		l.c.Start(u)
	case 14:
		l.c.Fuse(u, r.Intn(20))
	case 15:
		l.c.Compact(u)
	}
}

// mend starts all units, in any order, and rebuilds.
func (l *log) mend(r *rand.Rand, units int) {
	l.t.Helper()
	for _, u := range r.Perm(units) {
		if !l.c.Able(u) {
			l.c.Kill(u, drawPicks(r)...)
			if err := l.c.Start(u); err != nil {
				l.t.Fatal(u, err)
			}
		}
		l.c.Disk(u).Start() // no fuse
		if err := l.c.Compact(u); err != nil {
			l.t.Fatal(u, err)
		}
	}
	if err := l.c.Rebuild(r.Perm(units)...); err != nil {
		l.t.Fatal(err)
	}
}

// P13.2: as long as one unit of each chain is able, all is there behind a rebuilding.
func TestOneUnitIsEnough(t *testing.T) {
	for left := range 8 {
		l := newLog(t, 8, chain(0, 1, 2), chain(5, 4, 3))
		for i := range 9 {
			l.append(fmt.Sprint(i))
		}
		l.fill(12)
		l.put(10, data("x"))
		alone := chain(left%3, 3+left/3)
		for u := range 6 {
			if !slices.Contains(alone, u) {
				l.c.Kill(u)
			}
		}
		l.append("not all of its home")
		l.check(false)
		if err := l.c.Rebuild(7, 6); err != nil {
			t.Fatal(err)
		}
		l.check(true, left)
		l.append("y")
		if len(l.had) != 12 {
			t.Error(l.had)
		}
		for _, u := range alone {
			l.c.Kill(u)
		}
		if err := l.c.Rebuild(0, 1, 2, 3, 4, 5); err != api.ErrState {
			t.Error(err) // both spares went into the first chain
		}
	}
}
