package slog_test

import (
	"fmt"
	"maps"
	"slices"
	"testing"

	"holdfast/api"
	"holdfast/cell"
	"holdfast/disk"
	"holdfast/proj"
	"holdfast/record"
	"holdfast/shelf"
	"holdfast/slog"
	"holdfast/unit"
)

const (
	addresses = 1 << 20
	epochs    = 1 << 40
)

// plain is a cluster as the chapter tells it, told once more: each unit's acts are done by hand, one by one, and the sequencer is a number.
type plain struct {
	disks   []*disk.Disk
	shelves []*shelf.Shelf // nil, where a unit is off
	epoch   int
	chains  [][]int
	next    int
}

func plainNew(units, room int, chains [][]int) (*plain, error) {
	if units < 1 || units > 8 {
		return nil, api.ErrRange
	}
	if err := proj.Check(proj.Projection{Epoch: 1, Chains: chains}); err != nil {
		return nil, err
	}
	p := &plain{epoch: 1}
	for _, chain := range chains {
		p.chains = append(p.chains, slices.Clone(chain))
		for _, u := range chain {
			if u > units-1 {
				return nil, api.ErrRange
			}
		}
	}
	for u := range units {
		d, err := disk.New(room)
		if err != nil {
			return nil, err
		}
		s, err := shelf.Open(d)
		if err != nil {
			return nil, err
		}
		p.disks, p.shelves = append(p.disks, d), append(p.shelves, s)
		if _, err := p.do(u, record.Act{Kind: record.Seal, Epoch: 1}); err != nil {
			return nil, err
		}
	}
	return p, nil
}

func (p *plain) do(u int, a record.Act) (int, error) {
	if p.shelves[u] == nil {
		return 0, api.ErrDown
	}
	return p.shelves[u].Do(a)
}

func (p *plain) able(u int) bool {
	return p.shelves[u] != nil && !p.shelves[u].Broken() && !p.disks[u].Down()
}

// units is the projection's units, by their numbers.
func (p *plain) units() []int {
	var list []int
	for u := range 8 {
		for _, chain := range p.chains {
			if slices.Contains(chain, u) {
				list = append(list, u)
			}
		}
	}
	return list
}

func (p *plain) chain(address int) []int { return p.chains[address%len(p.chains)] }

// entry is what a unit has at an address, if it is data or a hole.
func entry(u *unit.Unit, address int) (cell.Cell, bool) {
	for _, e := range u.Entries() {
		if e.Address == address {
			return e.Cell, true
		}
	}
	return cell.Cell{}, false
}

// put puts a cell into a unit.
func (p *plain) put(u, epoch, address int, x cell.Cell) error {
	if x.Kind == cell.Hole {
		_, err := p.do(u, record.Act{Kind: record.Fill, Epoch: epoch, Address: address})
		return err
	}
	_, err := p.do(u, record.Act{Kind: record.Write, Epoch: epoch, Address: address, Data: x.Data})
	if err != api.ErrWritten {
		return err
	}
	if there, is := entry(p.shelves[u].Unit(), address); is && there.Kind == cell.Data && string(there.Data) == string(x.Data) {
		return nil
	}
	return api.ErrWritten
}

func (p *plain) raise(to int) {
	if to > p.next {
		p.next = to
	}
}

func (p *plain) append(data []byte) (int, error) {
	if len(data) > 64 {
		return 0, api.ErrLong
	}
	for p.next < addresses {
		address := p.next
		p.next++
		var err error
		for i, u := range p.chain(address) {
			_, err = p.do(u, record.Act{Kind: record.Write, Epoch: p.epoch, Address: address, Data: data})
			if err != nil && (i > 0 || err != api.ErrWritten && err != api.ErrTrimmed) {
				return 0, err
			}
			if err != nil {
				break
			}
		}
		if err == nil {
			return address, nil
		}
	}
	return 0, api.ErrFull
}

func (p *plain) read(address int) (cell.Cell, error) {
	if address < 0 || address >= addresses {
		return cell.Cell{}, api.ErrRange
	}
	chain := p.chain(address)
	last := p.shelves[chain[len(chain)-1]]
	if last == nil {
		return cell.Cell{}, api.ErrDown
	}
	return last.Read(p.epoch, address)
}

func (p *plain) fill(address int) error {
	if address < 0 || address >= addresses {
		return api.ErrRange
	}
	chain := p.chain(address)
	first := p.shelves[chain[0]]
	if first == nil {
		return api.ErrDown
	}
	x, err := first.Read(p.epoch, address)
	switch {
	case err != nil:
		return err
	case x.Kind == cell.Trimmed:
		return api.ErrTrimmed
	case x.Kind == cell.Data:
		for _, u := range chain[1:] {
			if err := p.put(u, p.epoch, address, x); err != nil {
				return err
			}
		}
		p.raise(address + 1)
		return api.ErrWritten
	}
	for _, u := range chain {
		if _, err := p.do(u, record.Act{Kind: record.Fill, Epoch: p.epoch, Address: address}); err != nil {
			return err
		}
	}
	p.raise(address + 1)
	return nil
}

func (p *plain) putAt(address int, x cell.Cell) error {
	if address < 0 || address >= addresses {
		return api.ErrRange
	}
	if err := cell.Check(x); err != nil {
		return err
	}
	if x.Kind == cell.Empty || x.Kind == cell.Trimmed {
		return api.ErrForm
	}
	for _, u := range p.chain(address) {
		if err := p.put(u, p.epoch, address, x); err != nil {
			return err
		}
	}
	p.raise(address + 1)
	return nil
}

func (p *plain) trim(below int) error {
	if below < 0 || below > addresses {
		return api.ErrRange
	}
	for _, u := range p.units() {
		if _, err := p.do(u, record.Act{Kind: record.Trim, Epoch: p.epoch, Address: below}); err != nil {
			return err
		}
	}
	p.raise(below)
	return nil
}

func (p *plain) cut(from int) error {
	if from < 0 || from > addresses {
		return api.ErrRange
	}
	for _, u := range p.units() {
		if !p.able(u) {
			return api.ErrDown
		}
	}
	epoch := p.epoch
	for _, u := range p.units() {
		if p.shelves[u].Unit().Low() > from {
			return api.ErrTrimmed
		}
		epoch = max(epoch, p.shelves[u].Epoch())
	}
	epoch++
	if epoch > epochs {
		return api.ErrFull
	}
	for _, u := range p.units() {
		if _, err := p.do(u, record.Act{Kind: record.Seal, Epoch: epoch}); err != nil {
			return err
		}
		if _, err := p.do(u, record.Act{Kind: record.Cut, Epoch: epoch, Address: from}); err != nil {
			return err
		}
	}
	p.epoch, p.next = epoch, from
	return nil
}

func (p *plain) rebuild(spares ...int) error {
	for _, u := range spares {
		if u < 0 || u >= len(p.disks) {
			return api.ErrRange
		}
	}
	epoch := p.epoch
	var dead []int
	for u := range p.disks {
		if p.able(u) {
			epoch = max(epoch, p.shelves[u].Epoch())
		} else {
			dead = append(dead, u)
		}
	}
	epoch++
	if epoch > epochs {
		return api.ErrFull
	}
	after, err := proj.Next(proj.Projection{Epoch: p.epoch, Chains: p.chains}, dead, spares)
	if err != nil {
		return err
	}
	low, stays := 0, map[int]bool{}
	for _, u := range p.units() {
		if p.able(u) {
			stays[u], low = true, max(low, p.shelves[u].Unit().Low())
		}
	}
	tail := low
	units := (&plain{chains: after.Chains}).units()
	for _, u := range units {
		n, err := p.do(u, record.Act{Kind: record.Seal, Epoch: epoch})
		if err != nil {
			return err
		}
		if stays[u] {
			tail = max(tail, n)
		}
	}
	for _, u := range units {
		if stays[u] {
			continue
		}
		if _, err := p.do(u, record.Act{Kind: record.Cut, Epoch: epoch, Address: p.shelves[u].Unit().Low()}); err != nil {
			return err
		}
	}
	for _, u := range units {
		if _, err := p.do(u, record.Act{Kind: record.Trim, Epoch: epoch, Address: low}); err != nil {
			return err
		}
	}
	for _, chain := range after.Chains {
		if err := p.copyAll(chain, stays, epoch); err != nil {
			return err
		}
	}
	p.epoch, p.chains, p.next = epoch, after.Chains, tail
	return nil
}

// copyAll goes through all addresses at which a unit of the chain has something, one by one.
func (p *plain) copyAll(chain []int, stays map[int]bool, epoch int) error {
	at := map[int]bool{}
	for _, u := range chain {
		for _, e := range p.shelves[u].Unit().Entries() {
			at[e.Address] = true
		}
	}
	for _, address := range slices.Sorted(maps.Keys(at)) {
		for _, from := range chain {
			x, is := entry(p.shelves[from].Unit(), address)
			if !is || !stays[from] {
				continue
			}
			for _, u := range chain {
				if c, _ := p.shelves[u].Read(epoch, address); c.Kind != cell.Empty {
					continue
				}
				if err := p.put(u, epoch, address, x); err != nil {
					return err
				}
			}
			break
		}
	}
	return nil
}

func (p *plain) kill(u int, keep ...bool) error {
	if u < 0 || u >= len(p.disks) {
		return api.ErrRange
	}
	p.disks[u].Cut(keep...)
	p.shelves[u] = nil
	return nil
}

func (p *plain) start(u int) error {
	if u < 0 || u >= len(p.disks) {
		return api.ErrRange
	}
	if p.shelves[u] != nil {
		return api.ErrState
	}
	p.disks[u].Start()
	s, err := shelf.Open(p.disks[u])
	if err != nil {
		return err
	}
	p.shelves[u] = s
	return nil
}

func (p *plain) fuse(u, n int) error {
	if u < 0 || u >= len(p.disks) {
		return api.ErrRange
	}
	return p.disks[u].Fuse(n)
}

func (p *plain) compact(u int) error {
	if u < 0 || u >= len(p.disks) {
		return api.ErrRange
	}
	if p.shelves[u] == nil {
		return api.ErrDown
	}
	return p.shelves[u].Compact()
}

func showCell(c cell.Cell) string { return fmt.Sprintf("%s:%.70q", cell.Word(c.Kind), c.Data) }

func showUnit(u *unit.Unit) string {
	if u == nil {
		return "none"
	}
	text := fmt.Sprint(u.Epoch(), " from ", u.Low(), ":")
	for _, e := range u.Entries() {
		text += fmt.Sprint(" ", e.Address, "=", showCell(e.Cell))
	}
	return text
}

// showDisk is all that a disk tells.
func showDisk(d *disk.Disk) string {
	names, err := d.List()
	text := fmt.Sprint("down ", d.Down(), ", pending ", d.Pending(), ", used ", d.Used(), ", list ", err)
	for _, name := range names {
		b, _ := d.Read(name)
		text += fmt.Sprintf(" %s %x", name, b)
	}
	for _, f := range d.Sure() {
		text += fmt.Sprintf(" sure %s %x", f.Name, f.Bytes)
	}
	return text
}

// looked is the addresses that are read to hold clusters against each other.
var looked = []int{-1, 0, 1, 2, 3, 4, 5, 6, 7, 8, 9, 10, 11, addresses - 1, addresses}

// show is all that a cluster tells.
func show(c *slog.Cluster) string {
	p := c.Projection()
	tail, err := c.Tail()
	text := fmt.Sprintln(p.Epoch, fmt.Sprint(p.Chains), "tail", tail, err)
	for u := range 9 {
		if c.Disk(u) != nil {
			text += fmt.Sprintln(u, c.Able(u), showUnit(c.Unit(u)), showDisk(c.Disk(u)))
		}
	}
	for _, address := range looked {
		x, err := c.Read(address)
		text += fmt.Sprintln("at", address, showCell(x), err)
	}
	return text
}

func (p *plain) show() string {
	text := fmt.Sprintln(p.epoch, fmt.Sprint(p.chains), "tail", p.next, error(nil))
	for u, d := range p.disks {
		text += fmt.Sprintln(u, p.able(u), showUnit(p.shelves[u].Unit()), showDisk(d))
	}
	for _, address := range looked {
		x, err := p.read(address)
		text += fmt.Sprintln("at", address, showCell(x), err)
	}
	return text
}

// pair is a cluster, and a plain one, of which each has units of its own; what is done to one is done to both.
type pair struct {
	t *testing.T
	c *slog.Cluster
	p *plain
}

// begin is a new pair.
func begin(t *testing.T, units, room int, chains ...[]int) *pair {
	t.Helper()
	c, err := slog.New(units, room, chains)
	p, want := plainNew(units, room, chains)
	if err != nil || want != nil {
		t.Fatal(err, want)
	}
	x := &pair{t, c, p}
	x.same("New")
	return x
}

func (x *pair) same(call string) {
	x.t.Helper()
	if got, want := show(x.c), x.p.show(); got != want {
		x.t.Fatalf("behind %s:\n%s\nwant\n%s", call, got, want)
	}
}

// answered asks whether both answered alike, and are alike then; it answers what they did.
func (x *pair) answered(call string, got, want error) error {
	x.t.Helper()
	if got != want {
		x.t.Fatalf("%s: %v, want %v", call, got, want)
	}
	x.same(call)
	return got
}

func (x *pair) append(data string) (int, error) {
	x.t.Helper()
	call := fmt.Sprintf("Append(%.70q)", data)
	n, err := x.c.Append([]byte(data))
	want, wantErr := x.p.append([]byte(data))
	if n != want {
		x.t.Fatalf("%s: %d, want %d", call, n, want)
	}
	return n, x.answered(call, err, wantErr)
}

func (x *pair) fill(address int) error {
	x.t.Helper()
	return x.answered(fmt.Sprint("Fill ", address), x.c.Fill(address), x.p.fill(address))
}

func (x *pair) put(address int, c cell.Cell) error {
	x.t.Helper()
	return x.answered(fmt.Sprint("Put ", address, c), x.c.Put(address, c), x.p.putAt(address, c))
}

func (x *pair) trim(below int) error {
	x.t.Helper()
	return x.answered(fmt.Sprint("Trim ", below), x.c.Trim(below), x.p.trim(below))
}

func (x *pair) cut(from int) error {
	x.t.Helper()
	return x.answered(fmt.Sprint("Cut ", from), x.c.Cut(from), x.p.cut(from))
}

func (x *pair) rebuild(spares ...int) error {
	x.t.Helper()
	return x.answered(fmt.Sprint("Rebuild ", spares), x.c.Rebuild(spares...), x.p.rebuild(spares...))
}

func (x *pair) kill(u int, keep ...bool) error {
	x.t.Helper()
	return x.answered(fmt.Sprint("Kill ", u, keep), x.c.Kill(u, keep...), x.p.kill(u, keep...))
}

func (x *pair) start(u int) error {
	x.t.Helper()
	return x.answered(fmt.Sprint("Start ", u), x.c.Start(u), x.p.start(u))
}

func (x *pair) fuse(u, n int) error {
	x.t.Helper()
	return x.answered(fmt.Sprint("Fuse ", u, n), x.c.Fuse(u, n), x.p.fuse(u, n))
}

func (x *pair) compact(u int) error {
	x.t.Helper()
	return x.answered(fmt.Sprint("Compact ", u), x.c.Compact(u), x.p.compact(u))
}

// both does to a unit's disk, on both sides, what is done to disks.
func (x *pair) both(u int, do func(d *disk.Disk)) {
	x.t.Helper()
	do(x.c.Disk(u))
	do(x.p.disks[u])
	x.same("what was done to a disk")
}

// lay makes a unit that is off have this unit: nobody uses its disk then.
func (x *pair) lay(u int, as *unit.Unit) {
	x.t.Helper()
	b, err := record.PutUnit(as)
	if err != nil {
		x.t.Fatal(err)
	}
	x.wants(nil, x.kill(u))
	x.both(u, func(d *disk.Disk) {
		d.Start()
		names, _ := d.List()
		for _, name := range names {
			d.Remove(name)
		}
		d.Write("b00001000", b)
		d.Sync()
	})
	x.wants(nil, x.start(u))
}

func (x *pair) wants(want, got error) {
	x.t.Helper()
	if got != want {
		x.t.Fatal(got, "want", want)
	}
}

// appends appends texts, and asks for their addresses.
func (x *pair) appends(first int, texts ...string) {
	x.t.Helper()
	for i, text := range texts {
		if n, err := x.append(text); n != first+i || err != nil {
			x.t.Fatal(n, err)
		}
	}
}

// has asks whether a unit is as it is told.
func (x *pair) has(u int, want string) {
	x.t.Helper()
	if got := showUnit(x.c.Unit(u)); got != want {
		x.t.Fatal(u, got, "want", want)
	}
}

// tail asks for the tail.
func (x *pair) tail(want int) {
	x.t.Helper()
	if n, err := x.c.Tail(); n != want || err != nil {
		x.t.Fatal(n, err, "want", want)
	}
}

// reads asks what is read.
func (x *pair) reads(address int, want string) {
	x.t.Helper()
	c, err := x.c.Read(address)
	got := showCell(c)
	if err != nil {
		got = err.Error()
	}
	if got != want {
		x.t.Fatal(address, got, "want", want)
	}
}

// is asks for the projection.
func (x *pair) is(epoch int, chains ...[]int) {
	x.t.Helper()
	if got, want := x.c.Projection(), (proj.Projection{Epoch: epoch, Chains: chains}); !proj.Same(got, want) {
		x.t.Fatal(got, "want", want)
	}
}

func data(text string) cell.Cell { return cell.Cell{Kind: cell.Data, Data: []byte(text)} }

func hole() cell.Cell { return cell.Cell{Kind: cell.Hole} }

// chain is a list of units.
func chain(units ...int) []int { return units }
