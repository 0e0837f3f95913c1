package vault_test

import (
	"fmt"
	"math/rand"
	"slices"
	"testing"

	"holdfast/api"
	"holdfast/cell"
	"holdfast/disk"
	"holdfast/manifest"
	"holdfast/segment"
	"holdfast/vault"
)

// act is what is done to a vault, and which answer it has where the power stays; commits tells whether it is a manifest's commit.
type act struct {
	do      func(v *vault.Vault) error
	want    error
	commits bool
}

func adding(number, place int, s segment.Segment) act {
	return act{do: func(v *vault.Vault) error {
		p, err := v.Add(number, place, s)
		if err == nil && p != partOf(s) {
			return fmt.Errorf("the part is %v", p)
		}
		return err
	}}
}

func committing(m manifest.Manifest, want error) act {
	return act{do: func(v *vault.Vault) error { return v.Commit(m) }, want: want, commits: want == nil}
}

func dropping(number, place int, want error) act {
	return act{do: func(v *vault.Vault) error { return v.Drop(number, place) }, want: want}
}

func sweeping() act { return act{do: (*vault.Vault).Sweep} }

// history is acts of all kinds, refused ones, too, that make the backup five.
func history() []act {
	b := five()
	list := b.chain()
	junk := mixed(1000, 9)
	return []act{
		adding(0, 0, b.segments[0][0]), adding(0, 1, junk), committing(list[0], api.ErrSum), adding(0, 1, b.segments[0][1]), adding(0, 2, junk), committing(list[0], nil),
		committing(list[0], api.ErrChain), committing(list[1], nil), dropping(0, 0, api.ErrState), committing(list[2], api.ErrNone),
		adding(2, 0, b.segments[2][0]), adding(2, 7, junk), sweeping(), committing(list[2], api.ErrNone), adding(2, 1, b.segments[2][1]), adding(2, 0, b.segments[2][0]), committing(list[2], nil),
		adding(3, 1, b.segments[3][1]), adding(3, 0, b.segments[3][0]), adding(3, 1, junk), adding(3, 1, b.segments[3][1]), committing(list[3], nil),
		dropping(0, 0, nil), dropping(0, 1, nil), dropping(0, 1, nil), dropping(2, 0, api.ErrState), sweeping(),
		adding(4, 0, b.segments[4][0]), committing(list[4], nil), dropping(2, 0, nil), sweeping(), sweeping(), adding(5, 0, junk),
	}
}

// picks calls for each way to keep some of so many changes.
func picks(many int, do func(keep []bool)) {
	for bits := range 1 << many {
		keep := make([]bool, many)
		for i := range keep {
			keep[i] = bits>>i&1 == 1
		}
		do(keep)
	}
}

func open(t *testing.T, d *disk.Disk) *vault.Vault {
	t.Helper()
	v, err := vault.Open(d)
	if err != nil {
		t.Fatal(err)
	}
	return v
}

// cutAt does acts till the power goes at operation n; it answers how many manifests were committed without an error, and how many with the one during which it went.
func cutAt(t *testing.T, acts []act, n int) (d *disk.Disk, had, may int, failed bool) {
	t.Helper()
	d = fresh(t, 100000)
	v := open(t, d)
	d.Fuse(n)
	for i, a := range acts {
		may = had
		if a.commits {
			may++
		}
		err := a.do(v)
		if err == api.ErrDown {
			return d, had, may, true
		}
		if err != a.want {
			t.Fatal(i, err)
		}
		had = may
	}
	return d, had, had, false
}

// has asks whether a vault has so many manifests of a backup, or so many others, with all that they must have, and answers how many.
func has(t *testing.T, v *vault.Vault, b backup, had, may int) int {
	t.Helper()
	list := v.Chain()
	many := len(list)
	if many != had && many != may || showAll(list) != showAll(b.chain()[:many]) {
		t.Fatalf("%s, want %d or %d of %s", showAll(list), had, may, showAll(b.chain()))
	}
	mark, right := 0, 0
	if many > 0 {
		mark = b.marks[many-1]
	}
	for i, segments := range b.segments[:many] {
		for j, s := range segments {
			got, err := v.Get(i, j)
			needed := segment.End(s) > mark
			if needed {
				right++
			}
			if (err != nil || !segment.Same(got, s)) && (needed || err != api.ErrNone) {
				t.Fatalf("%d, %d of %d: %v, %v, want %v", i, j, many, got, err, s)
			}
			hasCells(t, v, s, mark)
		}
		if s, err := v.Get(i, len(segments)); s.Cells != nil || err != api.ErrRange {
			t.Fatal(i, s, err)
		}
	}
	if n, err := v.Check(); n != right || err != nil {
		t.Fatal(n, err, "want", right)
	}
	hasNoMore(t, v, list)
	return many
}

// hasCells asks whether a segment's cells are read, or that they are trimmed.
func hasCells(t *testing.T, v *vault.Vault, s segment.Segment, mark int) {
	t.Helper()
	for i, want := range s.Cells {
		if s.First+i < mark {
			want = cell.Cell{Kind: cell.Trimmed}
		}
		if c, err := v.Read(s.First + i); !cell.Same(c, want) || err != nil {
			t.Fatalf("%d: %v, %v, want %v", s.First+i, c, err, want)
		}
	}
}

// hasNoMore asks whether what isn't committed isn't there.
func hasNoMore(t *testing.T, v *vault.Vault, list []manifest.Manifest) {
	t.Helper()
	if s, err := v.Get(len(list), 0); s.Cells != nil || err != api.ErrRange {
		t.Fatal(s, err)
	}
	end := 0
	for _, m := range list {
		end = m.To
	}
	for _, address := range []int{0, end, max(end, 1000)} {
		if c, err := v.Read(address); c.Kind != cell.Empty || err != api.ErrNone {
			t.Fatal(address, c, err)
		}
	}
}

// goesOn asks whether what was opened anew does all that is left to be done, and has it behind the next cut.
func goesOn(t *testing.T, d *disk.Disk, b backup, had int) {
	t.Helper()
	v := open(t, d)
	if err := v.Sweep(); err != nil {
		t.Fatal(err)
	}
	for i, m := range b.chain()[had:] {
		for j, s := range b.segments[had+i] {
			if p, err := v.Add(had+i, j, s); p != m.Parts[j] || err != nil {
				t.Fatal(p, err)
			}
		}
		if err := v.Commit(m); err != nil {
			t.Fatal(err)
		}
	}
	d.Cut()
	d.Start()
	has(t, open(t, d), b, len(b.marks), len(b.marks))
}

// P17.2: at each operation, whatever is kept; the power may go in Open, too.
func TestWhereverThePowerGoes(t *testing.T) {
	for n := 0; ; n++ {
		d, had, may, failed := cutAt(t, history(), n)
		picks(d.Pending(), func(keep []bool) {
			for fuse := range 3 {
				d, _, _, _ := cutAt(t, history(), n)
				d.Cut(keep...)
				d.Start()
				d.Fuse(fuse)
				if _, err := vault.Open(d); err != nil {
					d.Cut(fuse%2 == 0)
				}
				d.Start()
				goesOn(t, d, five(), has(t, open(t, d), five(), had, may))
			}
		})
		if !failed {
			if had != 5 {
				t.Error(had)
			}
			return
		}
	}
}

// P17.2: a start without a cut keeps nothing.
func TestStartWithoutCut(t *testing.T) {
	for n := 0; ; n++ {
		d, had, _, failed := cutAt(t, history(), n)
		d.Start()
		has(t, open(t, d), five(), had, had)
		if !failed {
			return
		}
	}
}

// with is a backup, and one manifest more.
func (b backup) with(mark int, segments ...segment.Segment) backup {
	return backup{append(slices.Clip(b.segments), segments), append(slices.Clip(b.marks), mark)}
}

// end is where a backup ends.
func (b backup) end() int {
	end := 0
	for _, segments := range b.segments {
		for _, s := range segments {
			end = segment.End(s)
		}
	}
	return end
}

// more is a backup, and one manifest more, of a few segments; the addresses begin at 5.
func (b backup) more(r *rand.Rand) backup {
	at, mark := max(b.end(), 5), 0
	if n := len(b.marks); n > 0 {
		mark = b.marks[n-1]
	}
	if len(b.marks) == 0 {
		return b.with(mark, mixed(at, 1+r.Intn(9)))
	}
	var segments []segment.Segment
	for range r.Intn(4) {
		s := mixed(at, 1+r.Intn(64))
		segments = append(segments, s)
		at = segment.End(s)
	}
	if r.Intn(2) == 0 {
		mark += r.Intn(max(at-mark, 0) + 1)
	}
	return b.with(mark, segments...)
}

// P17.2: what was committed stays, however often the power goes, and whatever else is done.
func TestWhatWasCommittedStays(t *testing.T) {
	longest := 0
	for seed := range int64(60) {
		r := rand.New(rand.NewSource(seed))
		d := fresh(t, 4000+r.Intn(4000))
		var b backup
		for range 20 {
			longer := growTillDown(t, r, d, &b)
			d.Cut(r.Intn(2) == 0, r.Intn(2) == 0)
			if r.Intn(2) == 0 {
				d.Start()
				d.Fuse(r.Intn(2))
				vault.Open(d)
			}
			d.Start()
			if has(t, open(t, d), longer, len(b.marks), len(longer.marks)) == len(longer.marks) {
				b = longer
			}
		}
		longest = max(longest, len(b.marks))
	}
	if longest < 15 {
		t.Error("at most", longest, "manifests")
	}
}

// growTillDown commits what is more, prunes and sweeps till the power goes: the backup that is there for sure is told in b, the one that may be is the answer.
func growTillDown(t *testing.T, r *rand.Rand, d *disk.Disk, b *backup) backup {
	t.Helper()
	v := open(t, d)
	d.Fuse(r.Intn(60))
	for {
		longer := b.more(r)
		err := grow(r, v, longer)
		if err == api.ErrDown {
			return longer
		}
		if err == nil {
			*b = longer
		}
		if err != nil && err != api.ErrFull {
			t.Fatal(err)
		}
		if err := prune(r, v, *b); err != nil {
			if err != api.ErrDown {
				t.Fatal(err)
			}
			return *b
		}
	}
}

// grow adds the segments of a backup's last manifest, in any order, and commits it.
func grow(r *rand.Rand, v *vault.Vault, b backup) error {
	number := len(b.marks) - 1
	for _, place := range r.Perm(len(b.segments[number])) {
		if _, err := v.Add(number, place, b.segments[number][place]); err != nil {
			return err
		}
	}
	return v.Commit(b.chain()[number])
}

// prune drops parts that aren't needed, and sweeps now and then.
func prune(r *rand.Rand, v *vault.Vault, b backup) error {
	for i, segments := range b.segments {
		for j := range segments {
			if r.Intn(3) == 0 {
				continue
			}
			if err := v.Drop(i, j); err != nil && err != api.ErrState {
				return err
			}
		}
	}
	if r.Intn(3) == 0 {
		return v.Sweep()
	}
	return nil
}
