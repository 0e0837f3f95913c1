package vault_test

import (
	"crypto/sha256"
	"fmt"
	"regexp"
	"slices"
	"strings"
	"testing"

	"holdfast/api"
	"holdfast/cell"
	"holdfast/disk"
	"holdfast/manifest"
	"holdfast/segment"
	"holdfast/vault"
)

// cellsOf is cells, each told by a text: . is empty, o a hole, x trimmed, all else data.
func cellsOf(texts ...string) []cell.Cell {
	var list []cell.Cell
	for _, text := range texts {
		switch text {
		case ".":
			list = append(list, cell.Cell{})
		case "o":
			list = append(list, cell.Cell{Kind: cell.Hole})
		case "x":
			list = append(list, cell.Cell{Kind: cell.Trimmed})
		default:
			list = append(list, cell.Cell{Kind: cell.Data, Data: []byte(text)})
		}
	}
	return list
}

func segmentOf(first int, texts ...string) segment.Segment {
	return segment.Segment{First: first, Cells: cellsOf(texts...)}
}

// mixed is a segment of so many cells of all kinds, no two of its data the same.
func mixed(first, many int) segment.Segment {
	var texts []string
	for i := range many {
		text := fmt.Sprint("cell ", first+i)
		if i%5 == 3 {
			text = []string{"o", ".", "x"}[i/5%3]
		}
		texts = append(texts, text)
	}
	return segmentOf(first, texts...)
}

// must is an answer that has no error.
func must[T any](x T, err error) T {
	if err != nil {
		panic(err)
	}
	return x
}

func segmentBytes(s segment.Segment) []byte { return must(segment.Put(s)) }

func manifestBytes(m manifest.Manifest) []byte { return must(manifest.Put(m)) }

// partOf is a segment's part, whose digest is the library's.
func partOf(s segment.Segment) manifest.Part {
	b := segmentBytes(s)
	return manifest.Part{First: s.First, Many: len(s.Cells), Size: len(b), Sum: sha256.Sum256(b)}
}

func partsOf(list ...segment.Segment) []manifest.Part {
	var parts []manifest.Part
	for _, s := range list {
		parts = append(parts, partOf(s))
	}
	return parts
}

// following is the manifest that follows a chain; the first one of all begins where its parts do.
func following(list []manifest.Manifest, trim int, parts ...manifest.Part) manifest.Manifest {
	m := manifest.Manifest{Number: len(list), Trim: trim, Parts: parts}
	if len(list) > 0 {
		ahead := list[len(list)-1]
		m.From, m.Prev = ahead.To, sha256.Sum256(manifestBytes(ahead))
	} else if len(parts) > 0 {
		m.From = parts[0].First
	}
	m.To = m.From
	for _, p := range parts {
		m.To += p.Many
	}
	return m
}

// backup is what a vault may have: segments, manifest by manifest, and the marks of these.
type backup struct {
	segments [][]segment.Segment
	marks    []int
}

func (b backup) chain() []manifest.Manifest {
	var list []manifest.Manifest
	for i, segments := range b.segments {
		list = append(list, following(list, b.marks[i], partsOf(segments...)...))
	}
	return list
}

// files is the objects of a backup.
func (b backup) files() map[string][]byte {
	files := map[string][]byte{}
	for i, m := range b.chain() {
		files[manifestFile(i)] = manifestBytes(m)
		for j, s := range b.segments[i] {
			files[segmentFile(i, j)] = segmentBytes(s)
		}
	}
	return files
}

func manifestFile(number int) string { return fmt.Sprintf("m%06d", number) }

func segmentFile(number, place int) string { return fmt.Sprintf("p%06d-%04d", number, place) }

// five is a backup from 5 to 150, with the mark 72: one manifest has no parts, two parts end below the mark, one at it, and one goes beyond it.
func five() backup {
	return backup{
		[][]segment.Segment{
			{mixed(5, 3), mixed(8, 60)},
			nil,
			{mixed(68, 4), mixed(72, 1)},
			{segmentOf(73, "a", "o", ".", "x", ""), mixed(78, 64)},
			{segmentOf(142, ".", ".", ".", ".", ".", ".", ".", "b")},
		},
		[]int{0, 6, 6, 70, 72},
	}
}

func show(m manifest.Manifest) string {
	parts := make([]string, len(m.Parts))
	for i, p := range m.Parts {
		parts[i] = fmt.Sprintf("[%d, %d cells, %d bytes, %x]", p.First, p.Many, p.Size, p.Sum)
	}
	return fmt.Sprintf("%d: %d to %d, trim %d, ahead %x: ", m.Number, m.From, m.To, m.Trim, m.Prev) + strings.Join(parts, " ")
}

// showAll is a chain as it is meant: an empty list is none.
func showAll(list []manifest.Manifest) string {
	text := fmt.Sprintln(len(list), "manifests")
	for _, m := range list {
		text += show(m) + "\n"
	}
	return text
}

func fresh(t *testing.T, room int) *disk.Disk {
	t.Helper()
	d, err := disk.New(room)
	if err != nil {
		t.Fatal(err)
	}
	return d
}

// laying writes files on a disk by hand; however many there are, for each is removed at once, and a cut keeps none of the removals.
type laying []bool

func (l *laying) add(t *testing.T, d *disk.Disk, name string, b []byte) {
	t.Helper()
	if err := d.Write(name, b); err != nil {
		t.Fatal(name, err)
	}
	if err := d.Remove(name); err != nil {
		t.Fatal(name, err)
	}
	*l = append(*l, true, false)
}

func (l *laying) end(d *disk.Disk) {
	d.Cut(*l...)
	d.Start()
}

// lay lays files on a disk.
func lay(t *testing.T, d *disk.Disk, files map[string][]byte) {
	t.Helper()
	var l laying
	for name, b := range files {
		l.add(t, d, name, b)
	}
	l.end(d)
}

// showDisk is all that a disk tells.
func showDisk(d *disk.Disk) string {
	names, err := d.List()
	text := fmt.Sprint("down ", d.Down(), ", pending ", d.Pending(), ", used ", d.Used(), ", list ", err)
	for _, name := range names {
		b, _ := d.Read(name)
		text += fmt.Sprintf("\n%s %x", name, sha256.Sum256(b))
	}
	for _, f := range d.Sure() {
		text += fmt.Sprintf("\nsure %s %x", f.Name, sha256.Sum256(f.Bytes))
	}
	return text
}

// A plain vault is the chapter told once more, with the disk's operations done by hand, one by one.
type plain struct {
	d    *disk.Disk
	list []manifest.Manifest
}

// steps does disk's operations up to the first error.
func steps(list ...func() error) error {
	for _, step := range list {
		if err := step(); err != nil {
			return err
		}
	}
	return nil
}

func (p *plain) put(name string, b []byte) error {
	return steps(
		func() error { return p.d.Write("~"+name, b) },
		p.d.Sync,
		func() error { return p.d.Rename("~"+name, name) },
		p.d.Sync,
	)
}

func (p *plain) remove(name string) error {
	return steps(func() error { return p.d.Remove(name) }, p.d.Sync)
}

// tidy removes what was being put, as layer 7 does.
func (p *plain) tidy() error {
	names, err := p.d.List()
	if err != nil {
		return err
	}
	some := false
	for _, name := range names {
		if strings.HasPrefix(name, "~") {
			some = true
			if err := p.d.Remove(name); err != nil {
				return err
			}
		}
	}
	if some {
		return p.d.Sync()
	}
	return nil
}

// plainOpen is a plain vault of a disk.
func plainOpen(d *disk.Disk) (*plain, error) {
	if d == nil {
		return nil, api.ErrNone
	}
	p := &plain{d: d}
	if err := p.tidy(); err != nil {
		return nil, err
	}
	for number := 0; ; number++ {
		b, err := d.Read(manifestFile(number))
		if err == api.ErrNone {
			break
		}
		if err != nil {
			return nil, err
		}
		m, err := manifest.Take(b)
		if err != nil {
			return nil, err
		}
		p.list = append(p.list, m)
	}
	for i, m := range p.list {
		if !follows(p.list[:i], m) {
			return nil, api.ErrChain
		}
	}
	return p, nil
}

// follows tells whether a manifest follows a chain.
func follows(list []manifest.Manifest, m manifest.Manifest) bool {
	if len(list) == 0 {
		return m.Number == 0
	}
	ahead := list[len(list)-1]
	return m.Number == ahead.Number+1 && m.From == ahead.To && m.Trim >= ahead.Trim && m.Prev == sha256.Sum256(manifestBytes(ahead))
}

func (p *plain) mark() int {
	mark := 0
	for _, m := range p.list {
		mark = m.Trim
	}
	return mark
}

func (p *plain) add(number, place int, s segment.Segment) (manifest.Part, error) {
	if number != len(p.list) || place < 0 || place > 1023 {
		return manifest.Part{}, api.ErrRange
	}
	if err := segment.Check(s); err != nil {
		return manifest.Part{}, err
	}
	if len(s.Cells) == 0 {
		return manifest.Part{}, api.ErrForm
	}
	if err := p.put(segmentFile(number, place), segmentBytes(s)); err != nil {
		return manifest.Part{}, err
	}
	return partOf(s), nil
}

// held is the segment of bytes that a part tells of.
func held(x manifest.Part, b []byte) (segment.Segment, error) {
	if len(b) != x.Size || sha256.Sum256(b) != x.Sum {
		return segment.Segment{}, api.ErrSum
	}
	s, err := segment.Take(b)
	if err != nil {
		return segment.Segment{}, err
	}
	if s.First != x.First || len(s.Cells) != x.Many {
		return segment.Segment{}, api.ErrForm
	}
	return s, nil
}

func (p *plain) commit(m manifest.Manifest) error {
	if err := manifest.Check(m); err != nil {
		return err
	}
	if !follows(p.list, m) {
		return api.ErrChain
	}
	for place, x := range m.Parts {
		b, err := p.d.Read(segmentFile(len(p.list), place))
		if err != nil {
			return err
		}
		if _, err := held(x, b); err != nil {
			return api.ErrSum
		}
	}
	if err := p.put(manifestFile(len(p.list)), manifestBytes(m)); err != nil {
		return err
	}
	m.Parts = slices.Clone(m.Parts)
	p.list = append(p.list, m)
	return nil
}

func (p *plain) part(number, place int) (manifest.Part, bool) {
	for i, m := range p.list {
		for j, x := range m.Parts {
			if i == number && j == place {
				return x, true
			}
		}
	}
	return manifest.Part{}, false
}

func (p *plain) get(number, place int) (segment.Segment, error) {
	x, there := p.part(number, place)
	if !there {
		return segment.Segment{}, api.ErrRange
	}
	b, err := p.d.Read(segmentFile(number, place))
	if err != nil {
		return segment.Segment{}, err
	}
	return held(x, b)
}

func (p *plain) read(address int) (cell.Cell, error) {
	for i, m := range p.list {
		for j, x := range m.Parts {
			if address < x.First || address >= x.First+x.Many {
				continue
			}
			if address < p.mark() {
				return cell.Cell{Kind: cell.Trimmed}, nil
			}
			s, err := p.get(i, j)
			if err != nil {
				return cell.Cell{}, err
			}
			return s.Cells[address-x.First], nil
		}
	}
	return cell.Cell{}, api.ErrNone
}

func (p *plain) drop(number, place int) error {
	x, there := p.part(number, place)
	if !there {
		return api.ErrRange
	}
	if x.First+x.Many > p.mark() {
		return api.ErrState
	}
	if err := p.remove(segmentFile(number, place)); err != api.ErrNone {
		return err
	}
	return nil
}

var ofObject = regexp.MustCompile("^[a-z0-9.-]{1,20}$")

func (p *plain) sweep() error {
	names, err := p.d.List()
	if err != nil {
		return err
	}
	var kept []string
	for i, m := range p.list {
		for j := range m.Parts {
			kept = append(kept, segmentFile(i, j))
		}
	}
	for _, name := range names {
		if name[0] != 'p' || !ofObject.MatchString(name) || slices.Contains(kept, name) {
			continue
		}
		if err := p.remove(name); err != nil {
			return err
		}
	}
	return nil
}

func (p *plain) check() (int, error) {
	right := 0
	for i, m := range p.list {
		for j, x := range m.Parts {
			if x.First+x.Many <= p.mark() {
				continue
			}
			if _, err := p.get(i, j); err != nil {
				return right, err
			}
			right++
		}
	}
	return right, nil
}

// pair is a vault, and a plain one, each on a disk of its own: whatever is done is done to both, and all that both tell is held against each other.
type pair struct {
	t *testing.T
	v *vault.Vault
	p *plain
	d *disk.Disk // the vault's
}

// begin is a pair on disks that have these files.
func begin(t *testing.T, room int, files map[string][]byte) *pair {
	t.Helper()
	d, twin := fresh(t, room), fresh(t, room)
	lay(t, d, files)
	lay(t, twin, files)
	v, err := vault.Open(d)
	if err != nil || v == nil || v.Store().Disk() != d {
		t.Fatal(v, err)
	}
	p, err := plainOpen(twin)
	if err != nil {
		t.Fatal(err)
	}
	x := &pair{t, v, p, d}
	x.same("Open")
	return x
}

func (x *pair) add(number, place int, s segment.Segment) error {
	x.t.Helper()
	want, wantErr := x.p.add(number, place, s)
	if p, err := x.v.Add(number, place, s); p != want || err != wantErr {
		x.t.Fatalf("Add(%d, %d, %v): %v, %v, want %v, %v", number, place, s, p, err, want, wantErr)
	}
	x.same("Add")
	return wantErr
}

func (x *pair) commit(m manifest.Manifest) error {
	x.t.Helper()
	want := x.p.commit(m)
	if err := x.v.Commit(m); err != want {
		x.t.Fatalf("Commit(%s): %v, want %v", show(m), err, want)
	}
	x.same("Commit")
	return want
}

func (x *pair) drop(number, place int) error {
	x.t.Helper()
	want := x.p.drop(number, place)
	if err := x.v.Drop(number, place); err != want {
		x.t.Fatalf("Drop(%d, %d): %v, want %v", number, place, err, want)
	}
	x.same("Drop")
	return want
}

func (x *pair) sweep() error {
	x.t.Helper()
	want := x.p.sweep()
	if err := x.v.Sweep(); err != want {
		x.t.Fatalf("Sweep: %v, want %v", err, want)
	}
	x.same("Sweep")
	return want
}

// open opens both anew; with an error both are as they were.
func (x *pair) open() error {
	x.t.Helper()
	p, want := plainOpen(x.p.d)
	v, err := vault.Open(x.d)
	if err != want || (v == nil) != (err != nil) {
		x.t.Fatalf("Open: %v, want %v", err, want)
	}
	if v != nil {
		x.v, x.p = v, p
	}
	x.same("Open")
	return want
}

// both does to both disks what is done to disks.
func (x *pair) both(do func(d *disk.Disk)) {
	x.t.Helper()
	do(x.d)
	do(x.p.d)
	x.same("what was done to the disk")
}

// putObject puts an object by the store's own call.
func (x *pair) putObject(name string, b []byte) error {
	x.t.Helper()
	want := x.p.put(name, b)
	if err := x.v.Store().Put(name, b); err != want {
		x.t.Fatalf("%s is put: %v, want %v", name, err, want)
	}
	x.same("Put of " + name)
	return want
}

// deleteObject deletes an object by the store's own call.
func (x *pair) deleteObject(name string) error {
	x.t.Helper()
	want := x.p.remove(name)
	if err := x.v.Store().Delete(name); err != want {
		x.t.Fatalf("%s is deleted: %v, want %v", name, err, want)
	}
	x.same("Delete of " + name)
	return want
}

// wants asks whether an answer is that one.
func (x *pair) wants(want, got error) {
	x.t.Helper()
	if got != want {
		x.t.Fatal(got, "want", want)
	}
}

func (x *pair) same(call any) {
	x.t.Helper()
	if got, want := showDisk(x.d), showDisk(x.p.d); got != want {
		x.t.Fatalf("behind %v: %s\nwant %s", call, got, want)
	}
	if got, want := showAll(x.v.Chain()), showAll(x.p.list); got != want {
		x.t.Fatalf("behind %v: %s\nwant %s", call, got, want)
	}
	if got := x.v.Store().Disk(); got != x.d {
		x.t.Fatalf("behind %v: the store's disk is another one", call)
	}
	want, wantErr := x.p.check()
	if n, err := x.v.Check(); n != want || err != wantErr {
		x.t.Fatalf("behind %v: Check: %d, %v, want %d, %v", call, n, err, want, wantErr)
	}
	for number := -1; number <= len(x.p.list); number++ {
		x.sameSegments(call, number)
	}
	for _, address := range x.addresses() {
		x.sameCell(call, address)
	}
}

func (x *pair) sameSegments(call any, number int) {
	x.t.Helper()
	places := 0
	if number >= 0 && number < len(x.p.list) {
		places = len(x.p.list[number].Parts)
	}
	for place := -1; place <= places; place++ {
		want, wantErr := x.p.get(number, place)
		if s, err := x.v.Get(number, place); !segment.Same(s, want) || err != wantErr {
			x.t.Fatalf("behind %v: Get(%d, %d): %v, %v, want %v, %v", call, number, place, s, err, want, wantErr)
		}
	}
}

// addresses is those at which something begins, or ends.
func (x *pair) addresses() []int {
	edges := []int{0, x.p.mark(), 1 << 20}
	for _, m := range x.p.list {
		edges = append(edges, m.From, m.To)
		for _, p := range m.Parts {
			edges = append(edges, p.First+p.Many/2, p.First+p.Many)
		}
	}
	var all []int
	for _, edge := range edges {
		all = append(all, edge-1, edge, edge+1)
	}
	slices.Sort(all)
	return slices.Compact(all)
}

func (x *pair) sameCell(call any, address int) {
	x.t.Helper()
	want, wantErr := x.p.read(address)
	if c, err := x.v.Read(address); !cell.Same(c, want) || err != wantErr {
		x.t.Fatalf("behind %v: Read(%d): %v, %v, want %v, %v", call, address, c, err, want, wantErr)
	}
}
