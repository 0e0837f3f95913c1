package disk_test

import (
	"fmt"
	"maps"
	"slices"
	"strings"
	"testing"

	"holdfast/api"
	"holdfast/disk"
)

// texts is files by their names.
type texts map[string]string

// step is an operation: w writes, m renames, x removes, s syncs.
type step struct {
	op       byte
	name, to string
	text     string
}

// on is the files behind a change.
func (s step) on(files texts) texts {
	files = maps.Clone(files)
	text, is := files[s.name]
	switch {
	case s.op == 'w':
		files[s.name] = s.text
	case s.op == 'm' && is:
		delete(files, s.name)
		files[s.to] = text
	case s.op == 'x':
		delete(files, s.name)
	}
	return files
}

// of does the operation on a disk.
func (s step) of(d *disk.Disk) error {
	switch s.op {
	case 'w':
		return d.Write(s.name, []byte(s.text))
	case 'm':
		return d.Rename(s.name, s.to)
	case 'x':
		return d.Remove(s.name)
	}
	return d.Sync()
}

// behind is the files behind those of the changes that are picked.
func behind(files texts, changes []step, pick func(i int) bool) texts {
	for i, c := range changes {
		if pick(i) {
			files = c.on(files)
		}
	}
	return files
}

func all(int) bool { return true }

func picked(keep []bool) func(int) bool {
	return func(i int) bool { return i < len(keep) && keep[i] }
}

func bytesOf(files texts) int {
	n := 0
	for _, text := range files {
		n += len(text)
	}
	return n
}

func rising(files texts) []string { return slices.Sorted(maps.Keys(files)) }

// plain is a disk as the chapter tells it, told once more: what it shows is worked out anew each time.
type plain struct {
	room    int
	sure    texts
	changes []step
	fused   bool
	fuse    int
	down    bool
}

func (p *plain) shown() texts { return behind(p.sure, p.changes, all) }

func named(name string) bool {
	return name != "" && len(name) <= 24 && strings.Trim(name, "abcdefghijklmnopqrstuvwxyz0123456789-.~") == ""
}

// refused is why an operation isn't done, but for the power.
func (p *plain) refused(s step) error {
	shown := p.shown()
	_, is := shown[s.name]
	switch {
	case s.op == 's':
		return nil
	case !named(s.name), s.op == 'm' && !named(s.to):
		return api.ErrForm
	case s.op != 'w' && !is:
		return api.ErrNone
	case s.op != 'w':
		return nil
	case len(s.text) > 65536:
		return api.ErrLong
	}
	if later := s.on(shown); len(later) > 512 || bytesOf(later) > p.room {
		return api.ErrFull
	}
	return nil
}

func (p *plain) do(s step) error {
	if p.down {
		return api.ErrDown
	}
	if p.fused && p.fuse == 0 {
		p.down = true
		return api.ErrDown
	}
	p.fuse--
	if err := p.refused(s); err != nil {
		return err
	}
	if s.op == 's' {
		p.sure, p.changes = p.shown(), nil
	} else {
		p.changes = append(p.changes, s)
	}
	return nil
}

func (p *plain) setFuse(n int) error {
	if n < 0 {
		return api.ErrRange
	}
	p.fused, p.fuse = true, n
	return nil
}

func (p *plain) cut(keep []bool) {
	p.sure = behind(p.sure, p.changes, picked(keep))
	p.changes = nil
	p.down = true
}

func (p *plain) start() {
	if p.down {
		p.changes = nil
	}
	p.down, p.fused = false, false
}

// sureFiles is the files that a disk is sure of.
func sureFiles(d *disk.Disk) texts {
	files := texts{}
	for _, f := range d.Sure() {
		files[f.Name] = string(f.Bytes)
	}
	return files
}

// differs tells what a disk answers otherwise than it is meant, or nothing.
func (p *plain) differs(d *disk.Disk) string {
	shown := p.shown()
	if d.Down() != p.down || d.Pending() != len(p.changes) || d.Used() != bytesOf(shown) {
		return fmt.Sprint("down ", d.Down(), ", pending ", d.Pending(), ", used ", d.Used(), ", want ", p.down, len(p.changes), bytesOf(shown))
	}
	var names []string
	for _, f := range d.Sure() {
		names = append(names, f.Name)
	}
	if !maps.Equal(sureFiles(d), p.sure) || !slices.Equal(names, rising(p.sure)) {
		return fmt.Sprint("sure ", d.Sure(), ", want ", p.sure)
	}
	if p.down {
		return isDown(d, shown)
	}
	if list, err := d.List(); err != nil || !slices.Equal(list, rising(shown)) {
		return fmt.Sprint("list ", list, err, ", want ", rising(shown))
	}
	for name, text := range shown {
		if b, err := d.Read(name); err != nil || string(b) != text {
			return fmt.Sprint("read of ", name, ": ", b, err, ", want ", text)
		}
	}
	for _, name := range []string{"", "A", "none", "a/b"} {
		if b, err := d.Read(name); err != api.ErrNone || b != nil {
			return fmt.Sprint("read of ", name, ": ", b, err)
		}
	}
	return ""
}

func isDown(d *disk.Disk, shown texts) string {
	for _, name := range append(rising(shown), "", "none") {
		if b, err := d.Read(name); err != api.ErrDown || b != nil {
			return fmt.Sprint("read of ", name, " without power: ", b, err)
		}
	}
	if list, err := d.List(); err != api.ErrDown || list != nil {
		return fmt.Sprint("list without power: ", list, err)
	}
	return ""
}

// pair is a disk, and what is meant by it; each call is asked of both.
type pair struct {
	t *testing.T
	d *disk.Disk
	p *plain
}

func begin(t *testing.T, room int) *pair {
	t.Helper()
	d, err := disk.New(room)
	if err != nil || d == nil {
		t.Fatal(d, err)
	}
	x := &pair{t, d, &plain{room: room, sure: texts{}}}
	x.same("New")
	return x
}

func (x *pair) same(call any) {
	x.t.Helper()
	if s := x.p.differs(x.d); s != "" {
		x.t.Fatalf("behind %v: %s", call, s)
	}
}

// do asks for an operation; it answers what is meant, and what was answered, too.
func (x *pair) do(s step) error {
	x.t.Helper()
	want := x.p.do(s)
	if got := s.of(x.d); got != want {
		x.t.Fatalf("%c %q %q, %d bytes: %v, want %v", s.op, s.name, s.to, len(s.text), got, want)
	}
	x.same(s.op)
	return want
}

// wants asks for an operation whose answer is told.
func (x *pair) wants(want error, s step) {
	x.t.Helper()
	if got := x.do(s); got != want {
		x.t.Fatalf("%c %q %q, %d bytes: %v, want %v", s.op, s.name, s.to, len(s.text), got, want)
	}
}

func (x *pair) fuse(n int) {
	x.t.Helper()
	if got, want := x.d.Fuse(n), x.p.setFuse(n); got != want {
		x.t.Fatalf("Fuse(%d): %v, want %v", n, got, want)
	}
	x.same("Fuse")
}

func (x *pair) cut(keep ...bool) {
	x.t.Helper()
	x.p.cut(keep)
	x.d.Cut(keep...)
	x.same("Cut")
}

func (x *pair) start() {
	x.t.Helper()
	x.p.start()
	x.d.Start()
	x.same("Start")
}

// shows asks whether the disk shows these files, told as name and text, name and text.
func (x *pair) shows(want ...string) {
	x.t.Helper()
	var got []string
	names, err := x.d.List()
	for _, name := range names {
		b, _ := x.d.Read(name)
		got = append(got, name, string(b))
	}
	if err != nil || !slices.Equal(got, want) {
		x.t.Fatalf("it shows %q, %v, want %q", got, err, want)
	}
}

func write(name, text string) step { return step{op: 'w', name: name, text: text} }
func rename(from, to string) step  { return step{op: 'm', name: from, to: to} }
func remove(name string) step      { return step{op: 'x', name: name} }
func sync() step                   { return step{op: 's'} }

// long is n bytes, of which no two neighbours are the same.
func long(n int) string {
	b := make([]byte, n)
	for i := range b {
		b[i] = byte(i)
	}
	return string(b)
}
