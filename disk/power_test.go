package disk_test

import (
	"maps"
	"math"
	"math/rand"
	"testing"

	"holdfast/api"
	"holdfast/disk"
)

// P6.1: Fuse.

func TestFuse(t *testing.T) {
	for n := range 8 {
		x := begin(t, 100)
		x.wants(nil, write("old", "0"))
		x.wants(nil, sync())
		x.fuse(n)
		steps := []step{write("a", "1"), write("b", "2"), rename("a", "c"), remove("b"), sync(), write("d", "3"), rename("old", "e"), remove("e")}
		for i, s := range steps {
			if i < n {
				x.wants(nil, s)
			} else {
				x.wants(api.ErrDown, s)
			}
			if x.d.Down() != (i >= n) {
				t.Fatal(n, i, x.d.Down())
			}
		}
		x.start()
		for _, s := range steps {
			if x.wants(nil, write("z", "4")); x.do(s) == api.ErrDown {
				t.Fatal("the fuse is there behind a start")
			}
		}
	}
}

// An operation that has another error counts, and whatever its error, the power is asked for first.
func TestTheFuseCountsWhatIsRefused(t *testing.T) {
	refused := []struct {
		s    step
		want error
	}{
		{write("", ""), api.ErrForm},
		{write("a", long(65537)), api.ErrLong},
		{write("a", long(101)), api.ErrFull},
		{rename("", "b"), api.ErrForm},
		{rename("none", "b"), api.ErrNone},
		{remove(""), api.ErrForm},
		{remove("none"), api.ErrNone},
	}
	for _, c := range refused {
		x := begin(t, 100)
		x.fuse(2)
		x.wants(c.want, c.s)
		x.wants(c.want, c.s)
		x.wants(api.ErrDown, c.s)
		if !x.d.Down() {
			t.Error("there is power")
		}
		x.wants(api.ErrDown, c.s)
		x.start()
		x.wants(c.want, c.s)
	}
}

func TestTheFuseCountsNoneThatLooks(t *testing.T) {
	x := begin(t, 100)
	x.wants(nil, write("a", "1"))
	x.fuse(1)
	for range 5 {
		x.d.Read("a")
		x.d.Read("")
		x.d.List()
		x.d.Sure()
		x.d.Pending()
		x.d.Used()
		x.d.Down()
	}
	x.wants(nil, sync())
	x.d.Read("a")
	x.d.List()
	if x.d.Down() {
		t.Fatal("who looks needs no fuse")
	}
	x.wants(api.ErrDown, sync())
}

func TestFuseAgain(t *testing.T) {
	x := begin(t, 100)
	for _, n := range []int{-1, -2, math.MinInt} {
		if err := x.d.Fuse(n); err != api.ErrRange {
			t.Error(n, err)
		}
	}
	// The fuse that was refused is none.
	for range 5 {
		x.wants(nil, sync())
	}
	x.fuse(1)
	x.fuse(3)
	x.fuse(-1)
	for range 3 {
		x.wants(nil, sync())
	}
	x.wants(api.ErrDown, sync())
	x.start()
	x.fuse(3)
	x.wants(nil, sync())
	x.fuse(0)
	x.wants(api.ErrDown, sync())
	x.start()
	x.fuse(0)
	x.start() // with power: there is no fuse any more
	x.wants(nil, sync())
	x.fuse(math.MaxInt)
	for range 5 {
		x.wants(nil, sync())
	}
	// Without power a fuse may be set; Start takes it out.
	x.cut()
	x.fuse(0)
	x.fuse(-1)
	x.start()
	x.wants(nil, sync())
	// A cut takes it out by the start behind it, too.
	x.fuse(0)
	x.cut()
	x.start()
	x.wants(nil, sync())
}

// P6.1: Cut.

func TestCut(t *testing.T) {
	for _, c := range []struct {
		keep []bool
		want []string
	}{
		{nil, []string{"s", "0"}},
		{[]bool{}, []string{"s", "0"}},
		{[]bool{false, false, false, false}, []string{"s", "0"}},
		{[]bool{true}, []string{"a", "1", "s", "0"}},
		{[]bool{true, true}, []string{"b", "1", "s", "0"}},
		{[]bool{true, true, true}, []string{"b", "1"}},
		{[]bool{true, true, true, true}, []string{"b", "1", "s", "2"}},
		{[]bool{true, true, true, true, true, false, true}, []string{"b", "1", "s", "2"}},
		{[]bool{false, true}, []string{"s", "0"}}, // a rename of what isn't there
		{[]bool{false, false, true}, nil},
		{[]bool{false, false, false, true}, []string{"s", "2"}},
		{[]bool{true, false, true, true}, []string{"a", "1", "s", "2"}},
		{[]bool{false, false, false, false, true}, []string{"s", "0"}},
	} {
		x := begin(t, 100)
		x.wants(nil, write("s", "0"))
		x.wants(nil, sync())
		x.wants(nil, write("a", "1"))
		x.wants(nil, rename("a", "b"))
		x.wants(nil, remove("s"))
		x.wants(nil, write("s", "2"))
		x.cut(c.keep...)
		if !x.d.Down() || x.d.Pending() != 0 {
			t.Error(x.d.Down(), x.d.Pending())
		}
		x.cut(true, true, true, true) // there is nothing left to pick among
		x.start()
		x.shows(c.want...)
		if len(x.d.Sure()) != len(c.want)/2 {
			t.Error(x.d.Sure())
		}
	}
}

// What is done to what isn't there does nothing, and takes nothing away.
func TestCutThatKeepsWhatHasNothingToDo(t *testing.T) {
	x := begin(t, 100)
	x.wants(nil, write("a", "1"))
	x.wants(nil, sync())
	x.wants(nil, write("b", "2"))
	x.wants(nil, rename("b", "a"))
	x.wants(nil, remove("a"))
	x.wants(nil, write("c", "3"))
	x.wants(nil, remove("c"))
	x.cut(false, true, false, false, true)
	x.start()
	x.shows("a", "1")
}

func TestCutBehindTheFuse(t *testing.T) {
	x := begin(t, 100)
	x.wants(nil, write("a", "1"))
	x.wants(nil, sync())
	x.fuse(2)
	x.wants(nil, write("b", "2"))
	x.wants(nil, write("a", "333"))
	x.wants(api.ErrDown, sync())
	if x.d.Pending() != 2 || x.d.Used() != 4 || !x.d.Down() || len(x.d.Sure()) != 1 {
		t.Error("the changes are there no more", x.d.Pending(), x.d.Used(), x.d.Sure())
	}
	x.cut(true)
	if x.d.Pending() != 0 || x.d.Used() != 2 {
		t.Error(x.d.Pending(), x.d.Used())
	}
	x.start()
	x.shows("a", "1", "b", "2")
}

// P6.1: Start, Down.

func TestStart(t *testing.T) {
	x := begin(t, 100)
	if x.d.Down() {
		t.Error("a new disk has power")
	}
	x.wants(nil, write("a", "1"))
	x.start()
	x.start()
	x.shows("a", "1")
	if x.d.Pending() != 1 {
		t.Error("a start with power did something", x.d.Pending())
	}
	x.fuse(0)
	x.wants(api.ErrDown, write("b", "2"))
	x.start()
	x.shows()
	if x.d.Pending() != 0 || x.d.Used() != 0 {
		t.Error("the changes aren't lost", x.d.Pending(), x.d.Used())
	}
	x.cut(true)
	x.start()
	x.shows()
}

func TestWithoutPower(t *testing.T) {
	x := begin(t, 100)
	x.wants(nil, write("a", "1"))
	x.wants(nil, sync())
	x.wants(nil, remove("a"))
	x.cut()
	for range 2 {
		for _, s := range []step{write("a", ""), write("", ""), write("a", long(65537)), write("a", long(101)), rename("a", "b"), rename("", ""), rename("none", "b"), remove("a"), remove(""), remove("none"), sync()} {
			x.wants(api.ErrDown, s)
		}
	}
	if got := x.d.Sure(); len(got) != 1 || x.d.Used() != 1 {
		t.Error(got, x.d.Used())
	}
}

// The chapter's example.
func TestExample(t *testing.T) {
	for _, kept := range []bool{true, false} {
		d, _ := disk.New(10)
		d.Write("a", []byte("x"))
		if kept {
			d.Cut(true)
		} else {
			d.Cut()
		}
		d.Start()
		if _, err := d.Read("a"); (err == nil) != kept {
			t.Error(kept, err)
		}
	}
}

// P6.1: all calls, in any order.

func drawName(r *rand.Rand) string {
	if r.Intn(30) == 0 {
		return wrong()[r.Intn(len(wrong()))]
	}
	return string('a' + rune(r.Intn(5)))
}

func drawStep(r *rand.Rand) step {
	s := step{op: "wwwmmxxs"[r.Intn(8)]}
	if s.op != 's' {
		s.name = drawName(r)
	}
	switch s.op {
	case 'w':
		s.text = long(r.Intn(10))
	case 'm':
		s.to = drawName(r)
	}
	return s
}

func drawKeep(r *rand.Rand) []bool {
	keep := make([]bool, r.Intn(8))
	for i := range keep {
		keep[i] = r.Intn(2) == 0
	}
	return keep
}

func TestCallsInAnyOrder(t *testing.T) {
	r := rand.New(rand.NewSource(6))
	for range 3000 {
		x := begin(t, r.Intn(40))
		for range 40 {
			switch n := r.Intn(40); {
			case n < 2:
				x.fuse(r.Intn(8) - 1)
			case n < 4:
				x.cut(drawKeep(r)...)
			case n < 8:
				x.start()
			default:
				x.do(drawStep(r))
			}
		}
	}
}

// P6.2: what was synced is there behind every cut, but for what changes behind it say.

// eachPick calls with each way to keep some of so many changes.
func eachPick(many int, pick func(keep []bool)) {
	for bits := range 1 << many {
		keep := make([]bool, many)
		for i := range keep {
			keep[i] = bits>>i&1 == 1
		}
		pick(keep)
	}
}

// touched is the names of which the changes that are kept speak.
func touched(changes []step, keep []bool) map[string]bool {
	names := map[string]bool{}
	for i, c := range changes {
		if keep[i] {
			names[c.name] = true
			names[c.to] = true
		}
	}
	return names
}

// synced does steps on a new disk; it answers what was synced last, and the changes behind it.
func synced(t *testing.T, steps []step, fuse int) (d *disk.Disk, sure texts, changes []step) {
	t.Helper()
	d, err := disk.New(1000)
	if err != nil {
		t.Fatal(err)
	}
	d.Fuse(fuse)
	sure, shown := texts{}, texts{}
	for _, s := range steps {
		if s.of(d) != nil {
			continue
		}
		if s.op == 's' {
			sure, changes = shown, nil
			continue
		}
		shown = s.on(shown)
		changes = append(changes, s)
	}
	return d, sure, changes
}

func TestWhatWasSyncedIsThereBehindEveryCut(t *testing.T) {
	r := rand.New(rand.NewSource(7))
	for range 400 {
		var steps []step
		for range 3 + r.Intn(10) {
			steps = append(steps, drawStep(r))
		}
		for fuse := range len(steps) + 1 {
			_, _, changes := synced(t, steps, fuse)
			many := min(len(changes), 6)
			eachPick(many, func(keep []bool) {
				keep = append(keep, make([]bool, len(changes)-many)...)
				d, sure, changes := synced(t, steps, fuse)
				d.Cut(keep...)
				d.Start()
				holds(t, d, sure, changes, keep)
			})
		}
	}
}

// holds asks whether a disk has what was synced, but for what the changes that were kept say.
func holds(t *testing.T, d *disk.Disk, sure texts, changes []step, keep []bool) {
	t.Helper()
	if want := behind(sure, changes, picked(keep)); !maps.Equal(sureFiles(d), want) {
		t.Fatalf("it is sure of %q, want %q", sureFiles(d), want)
	}
	free := touched(changes, keep)
	for name, text := range sure {
		b, err := d.Read(name)
		if !free[name] && (err != nil || string(b) != text) {
			t.Fatalf("%s was synced as %q, and is %q, %v", name, text, b, err)
		}
	}
}

// Where the power goes by the fuse, and no cut comes, all that wasn't synced is lost.
func TestWhatWasSyncedIsThereBehindTheFuse(t *testing.T) {
	r := rand.New(rand.NewSource(8))
	for range 400 {
		var steps []step
		for range 12 {
			steps = append(steps, drawStep(r))
		}
		for fuse := range len(steps) {
			d, sure, changes := synced(t, steps, fuse)
			if !d.Down() {
				t.Fatal("the fuse let all through", fuse)
			}
			d.Start()
			holds(t, d, sure, changes, make([]bool, len(changes)))
		}
	}
}
