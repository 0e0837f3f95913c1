package store_test

import (
	"fmt"
	"maps"
	"slices"
	"strings"
	"testing"

	"holdfast/api"
	"holdfast/disk"
	"holdfast/store"
)

// A disk's operations, one behind the other, are what a store's call is told by; the twin is a disk on which they are done by hand.

type step func(d *disk.Disk) error

func write(name string, b []byte) step {
	return func(d *disk.Disk) error { return d.Write(name, b) }
}

func rename(from, to string) step {
	return func(d *disk.Disk) error { return d.Rename(from, to) }
}

func remove(name string) step {
	return func(d *disk.Disk) error { return d.Remove(name) }
}

func sync(d *disk.Disk) error { return d.Sync() }

func steps(d *disk.Disk, list ...step) error {
	for _, s := range list {
		if err := s(d); err != nil {
			return err
		}
	}
	return nil
}

func named(name string) bool {
	return name != "" && len(name) <= 20 && strings.Trim(name, "abcdefghijklmnopqrstuvwxyz0123456789-.") == ""
}

func putSteps(d *disk.Disk, name string, b []byte) error {
	if !named(name) {
		return api.ErrForm
	}
	return steps(d, write("~"+name, b), sync, rename("~"+name, name), sync)
}

func deleteSteps(d *disk.Disk, name string) error {
	if !named(name) {
		return api.ErrForm
	}
	return steps(d, remove(name), sync)
}

func openSteps(d *disk.Disk) error {
	names, err := d.List()
	var list []step
	for _, name := range names {
		if name[0] == '~' {
			list = append(list, remove(name))
		}
	}
	if err != nil || len(list) == 0 {
		return err
	}
	return steps(d, append(list, sync)...)
}

// objects is what a disk shows under objects' names.
func objects(d *disk.Disk) map[string]string {
	found := map[string]string{}
	names, _ := d.List()
	for _, name := range names {
		if named(name) {
			b, _ := d.Read(name)
			found[name] = string(b)
		}
	}
	return found
}

// sameDisks tells what is otherwise on two disks, or nothing.
func sameDisks(a, b *disk.Disk) string {
	if a.Down() != b.Down() || a.Pending() != b.Pending() || a.Used() != b.Used() {
		return fmt.Sprint("down, pending, used: ", a.Down(), a.Pending(), a.Used(), ", want ", b.Down(), b.Pending(), b.Used())
	}
	same := func(f, g disk.File) bool { return f.Name == g.Name && string(f.Bytes) == string(g.Bytes) }
	if !slices.EqualFunc(a.Sure(), b.Sure(), same) {
		return fmt.Sprint("sure: ", a.Sure(), ", want ", b.Sure())
	}
	m, aErr := a.List()
	n, bErr := b.List()
	if !slices.Equal(m, n) || aErr != bErr {
		return fmt.Sprint("list: ", m, aErr, ", want ", n, bErr)
	}
	for _, name := range n {
		x, _ := a.Read(name)
		y, _ := b.Read(name)
		if string(x) != string(y) {
			return fmt.Sprint(name, ": ", x, ", want ", y)
		}
	}
	return ""
}

// shows tells what a store shows otherwise than its disk has it, or nothing.
func shows(s *store.Store) string {
	d := s.Disk()
	_, down := d.List()
	found := objects(d)
	for _, begin := range []string{"", "a", "ab", "~", "~a", "A", "-", strings.Repeat("a", 30)} {
		var want []string
		for _, name := range slices.Sorted(maps.Keys(found)) {
			if len(name) >= len(begin) && name[:len(begin)] == begin {
				want = append(want, name)
			}
		}
		if got, err := s.List(begin); err != down || !slices.Equal(got, want) {
			return fmt.Sprintf("List(%q): %q, %v, want %q, %v", begin, got, err, want, down)
		}
	}
	for _, name := range []string{"a", "ab", "b", "-", ".", "none", "~a", "", "A"} {
		text, is := found[name]
		want := error(nil)
		switch {
		case !named(name):
			want = api.ErrForm
		case down != nil:
			want = api.ErrDown
		case !is:
			want = api.ErrNone
		}
		b, err := s.Get(name)
		if err != want || string(b) != text || err != nil && b != nil {
			return fmt.Sprintf("Get(%q): %q, %v, want %q, %v", name, b, err, text, want)
		}
		if s.Has(name) != (want == nil) {
			return fmt.Sprintf("Has(%q): %v", name, s.Has(name))
		}
	}
	return ""
}

// pair is a store, and the twin of its disk.
type pair struct {
	t    *testing.T
	s    *store.Store
	twin *disk.Disk
}

func fresh(t *testing.T, room int) *disk.Disk {
	t.Helper()
	d, err := disk.New(room)
	if err != nil {
		t.Fatal(err)
	}
	return d
}

func begin(t *testing.T, room int) *pair {
	t.Helper()
	d := fresh(t, room)
	s, err := store.Open(d)
	if err != nil || s == nil || s.Disk() != d {
		t.Fatal(s, err)
	}
	x := &pair{t, s, fresh(t, room)}
	x.same("Open")
	return x
}

func (x *pair) same(call any) {
	x.t.Helper()
	if s := sameDisks(x.s.Disk(), x.twin); s != "" {
		x.t.Fatalf("behind %v: %s", call, s)
	}
	if s := shows(x.s); s != "" {
		x.t.Fatalf("behind %v: %s", call, s)
	}
}

// put puts an object, and answers what is meant, and what was answered, too.
func (x *pair) put(name, text string) error {
	x.t.Helper()
	want := putSteps(x.twin, name, []byte(text))
	if got := x.s.Put(name, []byte(text)); got != want {
		x.t.Fatalf("Put(%q): %v, want %v", name, got, want)
	}
	x.same("Put of " + name)
	return want
}

func (x *pair) delete(name string) error {
	x.t.Helper()
	want := deleteSteps(x.twin, name)
	if got := x.s.Delete(name); got != want {
		x.t.Fatalf("Delete(%q): %v, want %v", name, got, want)
	}
	x.same("Delete of " + name)
	return want
}

func (x *pair) open() error {
	x.t.Helper()
	want := openSteps(x.twin)
	s, err := store.Open(x.s.Disk())
	if err != want || (s == nil) != (err != nil) {
		x.t.Fatalf("Open: %v, %v, want %v", s, err, want)
	}
	if s != nil {
		x.s = s
	}
	x.same("Open")
	return want
}

// both does to the store's disk, and to the twin, what is done to disks.
func (x *pair) both(do func(d *disk.Disk)) {
	x.t.Helper()
	do(x.s.Disk())
	do(x.twin)
	x.same("what was done to the disk")
}

// wants asks whether an answer is that one.
func (x *pair) wants(want, got error) {
	x.t.Helper()
	if got != want {
		x.t.Fatal(got, "want", want)
	}
}
