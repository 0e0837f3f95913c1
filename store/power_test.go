package store_test

import (
	"maps"
	"math/rand"
	"strconv"
	"strings"
	"testing"

	"holdfast/api"
	"holdfast/disk"
	"holdfast/store"
)

// act puts an object, or deletes one.
type act struct {
	name, text string
	gone       bool
}

func (a act) of(s *store.Store) error {
	if a.gone {
		return s.Delete(a.name)
	}
	return s.Put(a.name, []byte(a.text))
}

// on is the objects behind the act.
func (a act) on(have map[string]string) map[string]string {
	have = maps.Clone(have)
	if a.gone {
		delete(have, a.name)
	} else {
		have[a.name] = a.text
	}
	return have
}

// picks calls for each way to keep some of so many changes.
func picks(many int, with func(keep []bool)) {
	for bits := range 1 << many {
		keep := make([]bool, many)
		for i := range keep {
			keep[i] = bits>>i&1 == 1
		}
		with(keep)
	}
}

func open(t *testing.T, d *disk.Disk) *store.Store {
	t.Helper()
	s, err := store.Open(d)
	if err != nil {
		t.Fatal(err)
	}
	return s
}

// shown is a store's objects, by what it answers.
func shown(t *testing.T, s *store.Store) map[string]string {
	t.Helper()
	found := map[string]string{}
	names, err := s.List("")
	if err != nil {
		t.Fatal(err)
	}
	for _, name := range names {
		b, err := s.Get(name)
		if err != nil {
			t.Fatal(name, err)
		}
		found[name] = string(b)
	}
	return found
}

// cutAt does acts till the power goes at operation n; it answers what was there for sure ahead of the act that failed, and behind it.
func cutAt(t *testing.T, acts []act, n int) (d *disk.Disk, had, may map[string]string, failed bool) {
	t.Helper()
	d = fresh(t, 1000)
	s := open(t, d)
	if err := d.Fuse(n); err != nil {
		t.Fatal(err)
	}
	had = map[string]string{}
	for i, a := range acts {
		may = a.on(had)
		if err := a.of(s); err != nil {
			if err != api.ErrDown {
				t.Fatal(i, err)
			}
			return d, had, may, true
		}
		had = may
	}
	return d, had, had, false
}

// P7.2: at each operation, whatever is kept, and the power may go in Open, too.
func TestWhereverThePowerGoes(t *testing.T) {
	acts := []act{
		{name: "a", text: "1"}, {name: "b", text: ""}, {name: "a", text: "22"}, {name: "b", gone: true},
		{name: "a", text: "22"}, {name: "b", text: "333"}, {name: "a", gone: true}, {name: "a", text: strings.Repeat("4", 300)},
	}
	for n := 0; ; n++ {
		d, had, may, failed := cutAt(t, acts, n)
		picks(d.Pending(), func(keep []bool) {
			for fuse := range 4 {
				d, _, _, _ := cutAt(t, acts, n)
				d.Cut(keep...)
				d.Start()
				d.Fuse(fuse)
				if _, err := store.Open(d); err != nil {
					d.Cut(fuse%2 == 0)
				}
				d.Start()
				s := open(t, d)
				if got := shown(t, s); !maps.Equal(got, had) && !maps.Equal(got, may) {
					t.Errorf("power went at %d, %v kept: %v, want %v or %v", n, keep, got, had, may)
				}
				if l, _ := d.List(); strings.Contains(strings.Join(l, " "), "~") {
					t.Errorf("power went at %d, %v kept: %q", n, keep, l)
				}
			}
		})
		if !failed {
			break
		}
	}
}

// P7.2: what was put or deleted without an error stays, whatever a cut behind it keeps, and however often the power goes.
func TestWhatWasDoneStays(t *testing.T) {
	for seed := range int64(100) {
		r := rand.New(rand.NewSource(seed))
		d := fresh(t, 1000)
		have := map[string]string{}
		for range 40 {
			d.Start()
			s := open(t, d)
			if got := shown(t, s); !maps.Equal(got, have) {
				t.Fatalf("seed %d: %v, want %v", seed, got, have)
			}
			d.Fuse(r.Intn(30))
			have = actTillDown(t, r, s, have)
		}
	}
}

// actTillDown does random acts till the power goes, and answers what must be there, or what may be, where that is what is there.
func actTillDown(t *testing.T, r *rand.Rand, s *store.Store, have map[string]string) map[string]string {
	t.Helper()
	for {
		a := act{name: string(rune('a' + r.Intn(3))), text: strconv.Itoa(r.Intn(1000)), gone: r.Intn(3) == 0}
		_, is := have[a.name]
		err := a.of(s)
		if err == api.ErrDown {
			keep := []bool{r.Intn(2) == 0, r.Intn(2) == 0}
			s.Disk().Cut(keep...)
			return oneOf(s.Disk(), have, a.on(have))
		}
		if a.gone && !is {
			if err != api.ErrNone {
				t.Fatal(err)
			}
			continue
		}
		if err != nil {
			t.Fatal(err)
		}
		have = a.on(have)
	}
}

// oneOf is the second one, if a disk's sure objects are those, else the first one.
func oneOf(d *disk.Disk, had, may map[string]string) map[string]string {
	sure := map[string]string{}
	for _, f := range d.Sure() {
		if named(f.Name) {
			sure[f.Name] = string(f.Bytes)
		}
	}
	if maps.Equal(sure, may) {
		return may
	}
	return had
}

// P7.2: the chapter's example.
func TestACutThatKeepsNothing(t *testing.T) {
	d := fresh(t, 100)
	if err := open(t, d).Put("a", []byte("1")); err != nil {
		t.Fatal(err)
	}
	d.Cut()
	d.Start()
	if got := shown(t, open(t, d)); !maps.Equal(got, map[string]string{"a": "1"}) {
		t.Error(got)
	}
}
