package shelf_test

import (
	"fmt"
	"regexp"
	"strconv"
	"strings"
	"testing"

	"holdfast/api"
	"holdfast/cell"
	"holdfast/disk"
	"holdfast/record"
	"holdfast/shelf"
	"holdfast/unit"
)

func seal(epoch int) record.Act { return record.Act{Kind: record.Seal, Epoch: epoch} }

func write(epoch, address int, text string) record.Act {
	return record.Act{Kind: record.Write, Epoch: epoch, Address: address, Data: []byte(text)}
}

func fill(epoch, address int) record.Act {
	return record.Act{Kind: record.Fill, Epoch: epoch, Address: address}
}

func trim(epoch, below int) record.Act {
	return record.Act{Kind: record.Trim, Epoch: epoch, Address: below}
}

func cut(epoch, from int) record.Act {
	return record.Act{Kind: record.Cut, Epoch: epoch, Address: from}
}

// actBytes is an act's bytes, of one that is one.
func actBytes(a record.Act) []byte {
	b, err := record.Put(a)
	if err != nil {
		panic(err)
	}
	return b
}

func unitBytes(u *unit.Unit) []byte {
	b, err := record.PutUnit(u)
	if err != nil {
		panic(err)
	}
	return b
}

// unitOf is a new unit, to which acts were done, all of which can be.
func unitOf(acts ...record.Act) *unit.Unit {
	u := unit.New()
	for _, a := range acts {
		if _, err := record.Apply(u, a); err != nil {
			panic(err)
		}
	}
	return u
}

func showUnit(u *unit.Unit) string {
	if u == nil {
		return "none"
	}
	text := fmt.Sprint(u.Epoch(), " from ", u.Low(), ":")
	for _, e := range u.Entries() {
		text += fmt.Sprintf(" %d=%s:%.70q", e.Address, cell.Word(e.Cell.Kind), e.Cell.Data)
	}
	return text
}

func fresh(t *testing.T, room int) *disk.Disk {
	t.Helper()
	d, err := disk.New(room)
	if err != nil {
		t.Fatal(err)
	}
	return d
}

// lay writes files on a disk by hand, and makes them sure.
func lay(t *testing.T, d *disk.Disk, files map[string][]byte) {
	t.Helper()
	for name, b := range files {
		if err := d.Write(name, b); err != nil {
			t.Fatal(name, err)
		}
	}
	if err := d.Sync(); err != nil {
		t.Fatal(err)
	}
}

// showDisk is all that a disk tells.
func showDisk(d *disk.Disk) string {
	names, err := d.List()
	text := fmt.Sprint("down ", d.Down(), ", pending ", d.Pending(), ", used ", d.Used(), ", list ", err)
	for _, name := range names {
		b, _ := d.Read(name)
		text += fmt.Sprintf("\n%s %.20x (%d)", name, b, len(b))
	}
	for _, f := range d.Sure() {
		text += fmt.Sprintf("\nsure %s %.20x (%d)", f.Name, f.Bytes, len(f.Bytes))
	}
	return text
}

// A plain shelf is the chapter told once more: the disk's operations are done by hand, one by one, and the unit is made anew whenever it is asked for.
type plain struct {
	d      *disk.Disk
	base   []byte
	acts   []record.Act // behind the base
	next   int
	broken bool
}

func (p *plain) unit() *unit.Unit {
	u := unit.New()
	if p.base != nil {
		u, _ = record.TakeUnit(p.base)
	}
	for _, a := range p.acts {
		record.Apply(u, a)
	}
	return u
}

// steps does disk's operations up to the first error.
func (p *plain) steps(list ...func() error) error {
	for _, step := range list {
		if err := step(); err != nil {
			p.broken = p.broken || err == api.ErrDown
			return err
		}
	}
	return nil
}

func (p *plain) put(name string, b []byte) error {
	return p.steps(
		func() error { return p.d.Write("~"+name, b) },
		p.d.Sync,
		func() error { return p.d.Rename("~"+name, name) },
		p.d.Sync,
	)
}

func (p *plain) remove(name string) error {
	return p.steps(func() error { return p.d.Remove(name) }, p.d.Sync)
}

func (p *plain) do(a record.Act) (int, error) {
	if p.broken {
		return 0, api.ErrDown
	}
	n, err := record.Apply(p.unit(), a)
	if err != nil {
		return 0, err
	}
	if p.next > 99999999 {
		return 0, api.ErrFull
	}
	if err := p.put(fmt.Sprintf("r%08d", p.next), actBytes(a)); err != nil {
		return 0, err
	}
	p.acts = append(p.acts, a)
	p.next++
	return n, nil
}

var (
	ofBase = regexp.MustCompile("^b[0-9]{8}$")
	ofAct  = regexp.MustCompile("^r[0-9]{8}$")
)

func (p *plain) compact() error {
	if p.broken {
		return api.ErrDown
	}
	if p.next > 99999999 {
		return api.ErrFull
	}
	b, err := record.PutUnit(p.unit())
	if err != nil {
		return err
	}
	base := fmt.Sprintf("b%08d", p.next)
	if err := p.put(base, b); err != nil {
		return err
	}
	names, _ := p.d.List()
	for _, name := range names {
		if name != base && ofBase.MatchString(name) || ofAct.MatchString(name) {
			if err := p.remove(name); err != nil {
				return err
			}
		}
	}
	p.base, p.acts = b, nil
	return nil
}

// sweep removes what was being put, as layer 7 does.
func (p *plain) sweep() error {
	names, err := p.d.List()
	if err != nil {
		return err
	}
	list := []func() error{p.d.Sync}
	for _, name := range names {
		if strings.HasPrefix(name, "~") {
			list = append(list[:len(list)-1], func() error { return p.d.Remove(name) }, p.d.Sync)
		}
	}
	if len(list) == 1 {
		return nil
	}
	return p.steps(list...)
}

// plainOpen is a plain shelf of a disk.
func plainOpen(d *disk.Disk) (*plain, error) {
	if d == nil {
		return nil, api.ErrNone
	}
	p := &plain{d: d}
	if err := p.sweep(); err != nil {
		return nil, err
	}
	names, _ := d.List()
	for _, name := range names {
		if ofBase.MatchString(name) {
			p.base, _ = d.Read(name)
			p.next, _ = strconv.Atoi(name[1:])
		}
	}
	u := unit.New()
	if p.base != nil {
		var err error
		if u, err = record.TakeUnit(p.base); err != nil {
			return nil, err
		}
	}
	for ; p.next <= 99999999; p.next++ {
		b, err := d.Read(fmt.Sprintf("r%08d", p.next))
		if err == api.ErrNone {
			break
		}
		a, err := record.Take(b)
		if err != nil {
			return nil, err
		}
		p.acts = append(p.acts, a)
	}
	for _, a := range p.acts {
		if _, err := record.Apply(u, a); err != nil {
			return nil, api.ErrState
		}
	}
	return p, nil
}

// pair is a shelf, and a plain one, each on a disk of its own: whatever is done is done to both, and all that both tell is held against each other.
type pair struct {
	t *testing.T
	s *shelf.Shelf
	p *plain
}

// begin is a pair on disks that have these files.
func begin(t *testing.T, room int, files map[string][]byte) *pair {
	t.Helper()
	d, twin := fresh(t, room), fresh(t, room)
	lay(t, d, files)
	lay(t, twin, files)
	s, err := shelf.Open(d)
	if err != nil || s == nil || s.Disk() != d {
		t.Fatal(s, err)
	}
	p, err := plainOpen(twin)
	if err != nil {
		t.Fatal(err)
	}
	x := &pair{t, s, p}
	x.same("Open")
	return x
}

func (x *pair) do(a record.Act) error {
	x.t.Helper()
	want, wantErr := x.p.do(a)
	if n, err := x.s.Do(a); n != want || err != wantErr {
		x.t.Fatalf("Do(%v): %d, %v, want %d, %v", a, n, err, want, wantErr)
	}
	x.same(a)
	return wantErr
}

func (x *pair) compact() error {
	x.t.Helper()
	want := x.p.compact()
	if err := x.s.Compact(); err != want {
		x.t.Fatalf("Compact: %v, want %v", err, want)
	}
	x.same("Compact")
	return want
}

// open opens both anew; with an error both are as they were.
func (x *pair) open() error {
	x.t.Helper()
	p, want := plainOpen(x.p.d)
	s, err := shelf.Open(x.s.Disk())
	if err != want || (s == nil) != (err != nil) {
		x.t.Fatalf("Open: %v, want %v", err, want)
	}
	if s != nil {
		x.s, x.p = s, p
	}
	x.same("Open")
	return want
}

// both does to both disks what is done to disks.
func (x *pair) both(do func(d *disk.Disk)) {
	x.t.Helper()
	do(x.s.Disk())
	do(x.p.d)
	x.same("what was done to the disk")
}

// all does acts that can be done.
func (x *pair) all(acts ...record.Act) {
	x.t.Helper()
	for _, a := range acts {
		x.wants(nil, x.do(a))
	}
}

func (x *pair) wants(want, got error) {
	x.t.Helper()
	if got != want {
		x.t.Fatal(got, "want", want)
	}
}

func (x *pair) same(call any) {
	x.t.Helper()
	if got, want := showDisk(x.s.Disk()), showDisk(x.p.d); got != want {
		x.t.Fatalf("behind %v: %s\nwant %s", call, got, want)
	}
	u := x.p.unit()
	if got := x.s.Unit(); !unit.Same(got, u) {
		x.t.Fatalf("behind %v: %s, want %s", call, showUnit(got), showUnit(u))
	}
	if x.s.Epoch() != u.Epoch() || x.s.Next() != x.p.next || x.s.Broken() != x.p.broken {
		x.t.Fatalf("behind %v: %d, %d, %v, want %d, %d, %v", call, x.s.Epoch(), x.s.Next(), x.s.Broken(), u.Epoch(), x.p.next, x.p.broken)
	}
	for _, epoch := range []int{u.Epoch() - 1, u.Epoch(), u.Epoch() + 1} {
		x.sameAnswers(call, u, epoch)
	}
}

// sameAnswers holds what is told to whoever tells an epoch against what the unit tells.
func (x *pair) sameAnswers(call any, u *unit.Unit, epoch int) {
	x.t.Helper()
	down := x.p.broken || x.p.d.Down()
	want, wantErr := u.Tail(epoch)
	if down {
		want, wantErr = 0, api.ErrDown
	}
	if n, err := x.s.Tail(epoch); n != want || err != wantErr {
		x.t.Fatalf("behind %v: Tail(%d): %d, %v, want %d, %v", call, epoch, n, err, want, wantErr)
	}
	for _, address := range []int{-1, 0, 1, 2, 3, 4, 5, 1<<20 - 1, 1 << 20} {
		want, wantErr := u.Read(epoch, address)
		if down {
			want, wantErr = cell.Cell{}, api.ErrDown
		}
		if c, err := x.s.Read(epoch, address); !cell.Same(c, want) || err != wantErr {
			x.t.Fatalf("behind %v: Read(%d, %d): %v, %v, want %v, %v", call, epoch, address, c, err, want, wantErr)
		}
	}
}
