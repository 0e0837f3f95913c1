package vault_test

import (
	"crypto/sha256"
	"fmt"
	"maps"
	"math"
	"slices"
	"strings"
	"testing"

	"holdfast/api"
	"holdfast/cell"
	"holdfast/disk"
	"holdfast/frame"
	"holdfast/manifest"
	"holdfast/segment"
	"holdfast/sha"
	"holdfast/varint"
	"holdfast/vault"
)

// wrongPlaces is numbers that are no number or place, with those that are next to so many.
func wrongPlaces(many int) []int {
	return []int{-1, many, many + 1, -many, 1 << 32, 1<<32 + 1, math.MinInt, math.MaxInt}
}

// P17.1: all calls of a nil vault.

func TestNil(t *testing.T) {
	var v *vault.Vault
	if list := v.Chain(); list != nil {
		t.Error(list)
	}
	for _, place := range []int{-1, 0, 1024} {
		if p, err := v.Add(place, place, mixed(0, 65)); p != (manifest.Part{}) || err != api.ErrNone {
			t.Error(p, err)
		}
		if s, err := v.Get(place, place); s.First != 0 || s.Cells != nil || err != api.ErrNone {
			t.Error(s, err)
		}
		if c, err := v.Read(place); c.Kind != 0 || c.Data != nil || err != api.ErrNone {
			t.Error(c, err)
		}
		if err := v.Drop(place, place); err != api.ErrNone {
			t.Error(err)
		}
		if err := v.Commit(manifest.Manifest{Number: place}); err != api.ErrNone {
			t.Error(err)
		}
	}
	if err := v.Sweep(); err != api.ErrNone {
		t.Error(err)
	}
	if n, err := v.Check(); n != 0 || err != api.ErrNone {
		t.Error(n, err)
	}
	if s := v.Store(); s != nil {
		t.Error(s)
	}
}

// P17.1: Add.

func TestAdd(t *testing.T) {
	x := begin(t, 100000, nil)
	s := segmentOf(3, "a", "o", ".", "x")
	p, err := x.v.Add(0, 7, s)
	b := segmentBytes(s)
	if want := (manifest.Part{First: 3, Many: 4, Size: len(b), Sum: sha256.Sum256(b)}); p != want || err != nil {
		t.Error(p, err)
	}
	if names, _ := x.d.List(); !slices.Equal(names, []string{"p000000-0007"}) {
		t.Error(names)
	}
	if got, _ := x.d.Read("p000000-0007"); string(got) != string(b) || x.d.Pending() != 0 {
		t.Error(got)
	}
	x.wants(nil, x.p.put("p000000-0007", b))
	// What is added may be added anew, at any place, from anywhere on; what is no part yet isn't there.
	for _, place := range []int{0, 7, 1, 9, 10, 99, 100, 999, 1000, 1022, 1023} {
		for _, s := range []segment.Segment{mixed(place, 64), mixed(1<<20-1, 1), segmentOf(0, ".")} {
			x.wants(nil, x.add(0, place, s))
		}
	}
	if n, err := x.v.Check(); n != 0 || err != nil {
		t.Error(n, err)
	}
	if s, err := x.v.Get(0, 0); s.Cells != nil || err != api.ErrRange {
		t.Error(s, err)
	}
	if c, err := x.v.Read(0); c.Kind != cell.Empty || err != api.ErrNone {
		t.Error(c, err)
	}
}

// wrongSegments is what no part tells of, and what is said of it.
func wrongSegments() map[error][]segment.Segment {
	var long []byte
	for range 65 {
		long = append(long, 'x')
	}
	with := func(c cell.Cell) segment.Segment { return segment.Segment{First: 3, Cells: []cell.Cell{{}, c}} }
	return map[error][]segment.Segment{
		api.ErrForm:  {{}, {First: 7}, {First: 1 << 20, Cells: []cell.Cell{}}, with(cell.Cell{Kind: cell.Hole, Data: []byte("a")})},
		api.ErrRange: {{First: -1}, mixed(-1, 2), mixed(1<<20, 1), mixed(1<<20-63, 64), mixed(1<<20+1, 1), with(cell.Cell{Kind: 4}), with(cell.Cell{Kind: -1})},
		api.ErrLong:  {mixed(0, 65), with(cell.Cell{Kind: cell.Data, Data: long})},
	}
}

func TestAddWrong(t *testing.T) {
	for _, files := range []map[string][]byte{nil, five().files()} {
		x := begin(t, 100000, files)
		next := len(x.v.Chain())
		// Each is wrong in all ways that are named behind it, too.
		for round := range 2 {
			for want, list := range wrongSegments() {
				for _, s := range append(list, mixed(3, 2)) {
					for _, place := range wrongPlaces(1024) {
						x.wants(api.ErrRange, x.add(next, place, s))
					}
					for _, number := range append(wrongPlaces(1000000), next-1, next+1, 999999) {
						x.wants(api.ErrRange, x.add(number, 0, s))
						x.wants(api.ErrRange, x.add(number, -1, s))
					}
				}
				for _, s := range list {
					x.wants(want, x.add(next, 0, s))
					x.wants(want, x.add(next, 1023, s))
				}
			}
			if round == 0 {
				x.both(func(d *disk.Disk) { d.Cut() })
			}
			x.wants(api.ErrDown, x.add(next, 0, mixed(3, 2)))
			x.wants(api.ErrDown, x.add(next, 1023, mixed(3, 2)))
		}
	}
}

// What there is no room for, in bytes and in files, changes nothing; nor does what the power goes ahead of.
func TestAddWithoutRoom(t *testing.T) {
	s := mixed(0, 64)
	size := len(segmentBytes(s))
	x := begin(t, size-1, nil)
	x.wants(api.ErrFull, x.add(0, 0, s))
	x = begin(t, size, nil)
	x.wants(nil, x.add(0, 0, s))
	x.wants(api.ErrFull, x.add(0, 0, segmentOf(0, "a")))
	x.wants(api.ErrFull, x.add(0, 1, segmentOf(0, "a")))
	x = begin(t, 100000, nil)
	x.both(func(d *disk.Disk) {
		for i := range 511 {
			d.Write(fmt.Sprint("x", i), nil)
		}
		d.Sync()
	})
	x.wants(nil, x.add(0, 0, s))
	x.wants(api.ErrFull, x.add(0, 1, s))
	elder := segmentOf(0, "a")
	for fuse := range 5 {
		x := begin(t, 100000, nil)
		x.wants(nil, x.add(0, 0, elder))
		x.both(func(d *disk.Disk) { d.Fuse(fuse) })
		there, want := elder, error(api.ErrDown)
		if fuse == 4 {
			there, want = s, nil
		}
		x.wants(want, x.add(0, 0, s))
		x.both(func(d *disk.Disk) { d.Start() })
		x.wants(nil, x.commit(following(nil, 0, partOf(there))))
	}
}

// P17.1: Commit.

// fill adds and commits a whole backup.
func fill(x *pair, b backup) {
	x.t.Helper()
	for i, m := range b.chain() {
		for j, s := range b.segments[i] {
			x.wants(nil, x.add(i, j, s))
		}
		x.wants(nil, x.commit(m))
	}
}

func TestCommit(t *testing.T) {
	x := begin(t, 100000, nil)
	fill(x, five())
	if got, want := showAll(x.v.Chain()), showAll(five().chain()); got != want {
		t.Error(got)
	}
	if n, err := x.v.Check(); n != 4 || err != nil {
		t.Error(n, err)
	}
	var files []string
	for _, f := range x.d.Sure() {
		if string(five().files()[f.Name]) != string(f.Bytes) {
			t.Error(f.Name)
		}
		files = append(files, f.Name)
	}
	if want := slices.Sorted(maps.Keys(five().files())); !slices.Equal(files, want) || x.d.Pending() != 0 {
		t.Error(files)
	}
	x.wants(nil, x.open())
	if got, want := showAll(x.v.Chain()), showAll(five().chain()); got != want {
		t.Error(got)
	}
}

// What doesn't follow, or is no manifest: the chain's own errors, whatever is wrong with segments and the disk.
func TestCommitWhatDoesNotFollow(t *testing.T) {
	x := begin(t, 100000, five().files())
	s := mixed(150, 2)
	x.wants(nil, x.add(5, 0, s))
	good := following(x.v.Chain(), 72, partOf(s))
	none := manifest.Manifest{}
	for round := range 2 {
		for i, c := range []struct {
			change func(m *manifest.Manifest)
			want   error
		}{
			{func(m *manifest.Manifest) { *m = none }, api.ErrChain},
			{func(m *manifest.Manifest) { *m = five().chain()[4] }, api.ErrChain},
			{func(m *manifest.Manifest) { m.Number = 4 }, api.ErrChain},
			{func(m *manifest.Manifest) { m.Number = 6 }, api.ErrChain},
			{func(m *manifest.Manifest) { m.Number = 999999 }, api.ErrChain},
			{func(m *manifest.Manifest) { m.Trim = 71 }, api.ErrChain},
			{func(m *manifest.Manifest) { m.Prev[3] ^= 4 }, api.ErrChain},
			{func(m *manifest.Manifest) { m.Prev = sha.Digest{} }, api.ErrChain},
			{func(m *manifest.Manifest) { m.From, m.To, m.Parts = 151, 151, nil }, api.ErrChain},
			{func(m *manifest.Manifest) { m.From, m.To, m.Parts = 149, 149, nil }, api.ErrChain},
			{func(m *manifest.Manifest) { m.From, m.To, m.Parts[0].First = 151, 153, 151 }, api.ErrChain},
			{func(m *manifest.Manifest) { m.Number = -1 }, api.ErrRange},
			{func(m *manifest.Manifest) { m.Number = 1000000 }, api.ErrRange},
			{func(m *manifest.Manifest) { m.Number = math.MaxInt }, api.ErrRange},
			{func(m *manifest.Manifest) { m.Number, m.From = 4, -1 }, api.ErrRange},
			{func(m *manifest.Manifest) { m.Trim = 1<<20 + 1 }, api.ErrRange},
			{func(m *manifest.Manifest) { m.Parts[0].Many = 65 }, api.ErrRange},
			{func(m *manifest.Manifest) { m.Parts[0].Many = 0 }, api.ErrRange},
			{func(m *manifest.Manifest) { m.Parts[0].Size = 0 }, api.ErrRange},
			{func(m *manifest.Manifest) { m.Parts[0].Size = 65537 }, api.ErrRange},
			{func(m *manifest.Manifest) { m.To = 151 }, api.ErrForm},
			{func(m *manifest.Manifest) { m.To = 149 }, api.ErrForm},
			{func(m *manifest.Manifest) { m.Number = 0 }, api.ErrForm},
			{func(m *manifest.Manifest) { m.Parts[0].First = 151 }, api.ErrForm},
			{func(m *manifest.Manifest) { m.Parts = make([]manifest.Part, 1025) }, api.ErrLong},
		} {
			m := manifest.Copy(good)
			c.change(&m)
			if err := x.commit(m); err != c.want {
				t.Error(round, i, err)
			}
		}
		x.both(func(d *disk.Disk) { d.Cut() })
	}
	x.wants(api.ErrDown, x.commit(good))
	x.both(func(d *disk.Disk) { d.Start() })
	x.wants(nil, x.commit(good))
	x.wants(api.ErrChain, x.commit(good))
}

// A first manifest has the number 0, and may begin anywhere.
func TestCommitTheFirstOne(t *testing.T) {
	for _, m := range []manifest.Manifest{{}, {From: 9, To: 9}, {From: 1 << 20, To: 1 << 20, Trim: 1 << 20}, {Trim: 5}} {
		x := begin(t, 1000, nil)
		x.wants(api.ErrChain, x.commit(manifest.Manifest{Number: 1, From: m.From, To: m.To, Trim: m.Trim}))
		x.wants(nil, x.commit(m))
		x.wants(nil, x.open())
		if got := x.v.Chain(); len(got) != 1 || show(got[0]) != show(m) {
			t.Error(showAll(got))
		}
	}
}

// Part by part: the error of getting its object, and ErrSum of whatever else it holds; whatever the mark.
func TestCommitAsksForItsSegments(t *testing.T) {
	a, b, c := mixed(0, 3), mixed(3, 64), mixed(67, 1)
	whole := partsOf(a, b, c)
	right := [][]byte{segmentBytes(a), segmentBytes(b), segmentBytes(c)}
	// A part that tells of just these bytes, whatever they are.
	of := func(p manifest.Part, b []byte) manifest.Part {
		p.Size, p.Sum = len(b), sha256.Sum256(b)
		return p
	}
	turned := slices.Clone(right[1])
	turned[5] ^= 8
	for name, x := range map[string]struct {
		change func(parts []manifest.Part, objects [][]byte)
		want   error
	}{
		"all":                {func(parts []manifest.Part, objects [][]byte) {}, nil},
		"the first is none":  {func(parts []manifest.Part, objects [][]byte) { objects[0] = nil }, api.ErrNone},
		"the last is none":   {func(parts []manifest.Part, objects [][]byte) { objects[2] = nil }, api.ErrNone},
		"all are none":       {func(parts []manifest.Part, objects [][]byte) { clear(objects) }, api.ErrNone},
		"turned":             {func(parts []manifest.Part, objects [][]byte) { objects[1] = turned }, api.ErrSum},
		"the last is empty":  {func(parts []manifest.Part, objects [][]byte) { objects[2] = []byte{} }, api.ErrSum},
		"a byte more":        {func(parts []manifest.Part, objects [][]byte) { objects[2] = append(slices.Clone(right[2]), 0) }, api.ErrSum},
		"a byte fewer":       {func(parts []manifest.Part, objects [][]byte) { objects[2] = right[2][:5] }, api.ErrSum},
		"changed places":     {func(parts []manifest.Part, objects [][]byte) { objects[0], objects[2] = right[2], right[0] }, api.ErrSum},
		"wrong, then none":   {func(parts []manifest.Part, objects [][]byte) { objects[0], objects[1] = turned, nil }, api.ErrSum},
		"none, then wrong":   {func(parts []manifest.Part, objects [][]byte) { objects[0], objects[1] = nil, turned }, api.ErrNone},
		"another size":       {func(parts []manifest.Part, objects [][]byte) { parts[0].Size++ }, api.ErrSum},
		"another sum":        {func(parts []manifest.Part, objects [][]byte) { parts[2].Sum[0]++ }, api.ErrSum},
		"spoilt, and so put": {func(parts []manifest.Part, objects [][]byte) { objects[1], parts[1] = turned, of(parts[1], turned) }, api.ErrSum},
		"no segment": {func(parts []manifest.Part, objects [][]byte) {
			objects[0] = []byte("a")
			parts[0] = of(parts[0], objects[0])
		}, api.ErrSum},
		"from elsewhere on": {func(parts []manifest.Part, objects [][]byte) {
			objects[1] = segmentBytes(mixed(4, 64))
			parts[1] = of(parts[1], objects[1])
		}, api.ErrSum},
		"too many cells": {func(parts []manifest.Part, objects [][]byte) {
			objects[0] = segmentBytes(mixed(0, 4))
			parts[0] = of(parts[0], objects[0])
		}, api.ErrSum},
		"too few cells": {func(parts []manifest.Part, objects [][]byte) {
			objects[0] = segmentBytes(mixed(0, 2))
			parts[0] = of(parts[0], objects[0])
		}, api.ErrSum},
	} {
		for _, mark := range []int{0, 3, 68, 1 << 20} {
			parts, objects := slices.Clone(whole), slices.Clone(right)
			x.change(parts, objects)
			pair := begin(t, 100000, nil)
			for place, b := range objects {
				if b != nil {
					pair.wants(nil, pair.putObject(segmentFile(0, place), b))
				}
			}
			if err := pair.commit(following(nil, mark, parts...)); err != x.want {
				t.Errorf("%s, mark %d: %v, want %v", name, mark, err, x.want)
			}
			if n := len(pair.v.Chain()); n == 1 != (x.want == nil) {
				t.Errorf("%s, mark %d: %d manifests", name, mark, n)
			}
		}
	}
}

// Without a part there is nothing to be asked for: the manifest is put, and that may have errors.
func TestCommitWithoutRoom(t *testing.T) {
	for room := range 60 {
		x := begin(t, room, nil)
		want := error(nil)
		if room < len(manifestBytes(manifest.Manifest{})) {
			want = api.ErrFull
		}
		x.wants(want, x.commit(manifest.Manifest{}))
	}
	for fuse := range 5 {
		for _, kept := range []bool{true, false} {
			x := begin(t, 100000, five().files())
			m := following(x.v.Chain(), 100)
			x.both(func(d *disk.Disk) { d.Fuse(fuse) })
			err := x.commit(m)
			if (err == nil) != (fuse == 4) || fuse < 4 && err != api.ErrDown {
				t.Error(fuse, err)
			}
			x.both(func(d *disk.Disk) {
				d.Cut(kept)
				d.Start()
			})
			x.wants(nil, x.open())
			if n := len(x.v.Chain()); n == 6 != (fuse == 4 || fuse == 3 && kept) {
				t.Error(fuse, kept, n)
			}
		}
	}
}

// P17.1: Get.

func TestGet(t *testing.T) {
	b := five()
	x := begin(t, 100000, b.files())
	for round := range 2 {
		for i, segments := range b.segments {
			for j, want := range segments {
				s, err := x.v.Get(i, j)
				if round == 0 && (!segment.Same(s, want) || err != nil) || round == 1 && (s.First != 0 || s.Cells != nil || err != api.ErrDown) {
					t.Error(round, i, j, s, err)
				}
			}
			for _, j := range wrongPlaces(len(segments)) {
				if s, err := x.v.Get(i, j); s.First != 0 || s.Cells != nil || err != api.ErrRange {
					t.Error(round, i, j, s, err)
				}
			}
		}
		for _, i := range wrongPlaces(len(b.segments)) {
			if s, err := x.v.Get(i, 0); s.First != 0 || s.Cells != nil || err != api.ErrRange {
				t.Error(round, i, s, err)
			}
		}
		x.d.Cut()
	}
}

// Whatever stands there in the place of a segment, the part finds it out (but where it tells of just these bytes).
func TestGetOfWhatIsWrong(t *testing.T) {
	s := mixed(5, 3)
	right := segmentBytes(s)
	x := begin(t, 100000, map[string][]byte{"m000000": manifestBytes(following(nil, 0, partOf(s))), "p000000-0000": right})
	for i := range len(right) * 8 {
		b := slices.Clone(right)
		b[i/8] ^= 1 << (i % 8)
		x.wants(nil, x.putObject("p000000-0000", b))
		if s, err := x.v.Get(0, 0); s.First != 0 || s.Cells != nil || err != api.ErrSum {
			t.Error(i, s, err)
		}
		if c, err := x.v.Read(6); c.Kind != 0 || c.Data != nil || err != api.ErrSum {
			t.Error(i, c, err)
		}
		if n, err := x.v.Check(); n != 0 || err != api.ErrSum {
			t.Error(i, n, err)
		}
	}
	odd := func(numbers ...uint64) []byte { return must(frame.Put(nil, varint.Put(nil, numbers...))) }
	for want, list := range map[error][][]byte{
		api.ErrForm: {
			[]byte("a"), odd(), odd(5), odd(5, 3, 4), odd(5, 3, 3, 1), odd(5, 3, 3, 2, 0), append(slices.Clone(right), 0),
			segmentBytes(mixed(6, 3)), segmentBytes(mixed(4, 3)), segmentBytes(mixed(5, 2)), segmentBytes(mixed(5, 4)),
		},
		api.ErrSum:   {append(slices.Clone(right[:len(right)-1]), right[len(right)-1]^1)},
		api.ErrRange: {odd(1<<20 + 1), odd(1<<20, 1, 1, 2), odd(5, 3, 3, 4)},
		api.ErrLong:  {odd(5, 65)},
	} {
		for _, b := range list {
			p := manifest.Part{First: 5, Many: 3, Size: len(b), Sum: sha256.Sum256(b)}
			x := begin(t, 100000, map[string][]byte{"m000000": manifestBytes(following(nil, 0, p)), "p000000-0000": b})
			if s, err := x.v.Get(0, 0); s.First != 0 || s.Cells != nil || err != want {
				t.Errorf("%x: %v, %v, want %v", b, s, err, want)
			}
			if c, err := x.v.Read(5); c.Kind != 0 || c.Data != nil || err != want {
				t.Errorf("%x: %v, %v, want %v", b, c, err, want)
			}
		}
	}
}

// P17.1: Read.

func TestRead(t *testing.T) {
	b := five()
	x := begin(t, 100000, b.files())
	for _, segments := range b.segments {
		for _, s := range segments {
			for i, want := range s.Cells {
				if s.First+i < 72 {
					want = cell.Cell{Kind: cell.Trimmed}
				}
				if c, err := x.v.Read(s.First + i); !cell.Same(c, want) || err != nil {
					t.Error(s.First+i, c, err)
				}
			}
		}
	}
	none := []int{4, 150, 0, -1, 151, 1<<20 - 1, 1 << 20, 5 + 1<<32, math.MinInt, math.MaxInt}
	for _, address := range none {
		if c, err := x.v.Read(address); c.Kind != 0 || c.Data != nil || err != api.ErrNone {
			t.Error(address, c, err)
		}
	}
	// Without power what isn't there, or is trimmed, is told all the same: no segment is asked for.
	x.both(func(d *disk.Disk) { d.Cut() })
	for _, address := range none {
		x.sameCell("a cut", address)
	}
	for address := 5; address < 150; address++ {
		x.sameCell("a cut", address)
		if _, err := x.v.Read(address); (err == nil) != (address < 72) || address >= 72 && err != api.ErrDown {
			t.Error(address, err)
		}
	}
}

// Below the mark nothing is asked for, but what no part has isn't trimmed, either.
func TestReadBelowTheMark(t *testing.T) {
	b := backup{[][]segment.Segment{{mixed(10, 4), mixed(14, 6)}, {mixed(20, 2)}}, []int{0, 16}}
	for _, files := range []map[string][]byte{b.files(), but(b.files(), func(files map[string][]byte) { delete(files, "p000000-0000"); delete(files, "p000000-0001") })} {
		x := begin(t, 10000, files)
		for address := 10; address < 16; address++ {
			if c, err := x.v.Read(address); c.Kind != cell.Trimmed || c.Data != nil || err != nil {
				t.Error(address, c, err)
			}
		}
		want := error(nil)
		if _, there := files["p000000-0001"]; !there {
			want = api.ErrNone
		}
		for address := 16; address < 20; address++ {
			if _, err := x.v.Read(address); err != want {
				t.Error(address, err)
			}
		}
		for _, address := range []int{0, 9, 22} {
			if c, err := x.v.Read(address); c.Kind != 0 || err != api.ErrNone {
				t.Error(address, c, err)
			}
		}
	}
	// A mark beyond all that there is.
	b.marks[1] = 1 << 20
	x := begin(t, 10000, b.files())
	for address := 10; address < 22; address++ {
		if c, err := x.v.Read(address); c.Kind != cell.Trimmed || err != nil {
			t.Error(address, c, err)
		}
	}
	if n, err := x.v.Check(); n != 0 || err != nil {
		t.Error(n, err)
	}
}

// P17.1: Drop.

func TestDrop(t *testing.T) {
	b := five()
	below := [][2]int{{0, 0}, {0, 1}, {2, 0}}
	above := [][2]int{{2, 1}, {3, 0}, {3, 1}, {4, 0}}
	x := begin(t, 100000, b.files())
	for round := range 2 {
		for _, at := range above {
			x.wants(api.ErrState, x.drop(at[0], at[1]))
		}
		for i, segments := range b.segments {
			for _, j := range wrongPlaces(len(segments)) {
				x.wants(api.ErrRange, x.drop(i, j))
			}
		}
		for _, i := range wrongPlaces(5) {
			x.wants(api.ErrRange, x.drop(i, 0))
		}
		if round == 0 {
			x.both(func(d *disk.Disk) { d.Cut() })
		}
		for _, at := range below {
			x.wants(api.ErrDown, x.drop(at[0], at[1]))
		}
	}
	x.both(func(d *disk.Disk) { d.Start() })
	for _, at := range below {
		// Once more it has no object any more.
		for range 2 {
			x.wants(nil, x.drop(at[0], at[1]))
			if s, err := x.v.Get(at[0], at[1]); s.Cells != nil || err != api.ErrNone {
				t.Error(at, s, err)
			}
		}
	}
	if n, err := x.v.Check(); n != 4 || err != nil {
		t.Error(n, err)
	}
	if c, err := x.v.Read(71); c.Kind != cell.Trimmed || err != nil {
		t.Error(c, err)
	}
	x.wants(nil, x.open())
	if names, _ := x.d.List(); len(names) != len(b.files())-3 || x.d.Pending() != 0 {
		t.Error(names)
	}
}

// The last address of a part is what counts: a part that ends one above the mark stays.
func TestDropAtTheMark(t *testing.T) {
	for mark := range 12 {
		b := backup{[][]segment.Segment{{mixed(5, 3)}, nil}, []int{0, mark}}
		x := begin(t, 10000, b.files())
		want := error(nil)
		if mark < 8 {
			want = api.ErrState
		}
		x.wants(want, x.drop(0, 0))
		wantMany := 0
		if mark < 8 {
			wantMany = 1
		}
		if n, err := x.v.Check(); n != wantMany || err != nil {
			t.Error(mark, n, err)
		}
	}
}

// The power goes ahead of the removal, or ahead of its being sure.
func TestDropWithFuse(t *testing.T) {
	for fuse := range 3 {
		for _, kept := range []bool{true, false} {
			x := begin(t, 100000, five().files())
			x.both(func(d *disk.Disk) { d.Fuse(fuse) })
			if err := x.drop(0, 0); (err == nil) != (fuse == 2) || fuse < 2 && err != api.ErrDown {
				t.Error(fuse, err)
			}
			x.both(func(d *disk.Disk) {
				d.Cut(kept)
				d.Start()
			})
			if there := x.v.Store().Has("p000000-0000"); there == (fuse == 2 || fuse == 1 && kept) {
				t.Error(fuse, kept, there)
			}
			// What has no object counts for a fuse, too.
			x.wants(nil, x.drop(0, 0))
			x.both(func(d *disk.Disk) { d.Fuse(1) })
			x.wants(nil, x.drop(0, 0))
			x.wants(api.ErrDown, x.drop(0, 0))
		}
	}
}

// P17.1: Sweep.

// swept is files, of which those whose names begin with a p are no part's.
func swept() map[string][]byte {
	files := but(five().files(), func(files map[string][]byte) { maps.Copy(files, strangers()) })
	for _, name := range []string{
		"p000000-0002", "p000001-0000", "p000002-0010", "p000005-0000", "p000010-0000", "p999999-9999", "p000000-0000-", "p000000-000a", "p00000a-0000",
		"p000000--000", "p.", "p-", "p--", "p0", "p0-0", "p000000-1", "p0-0000", "p00000000000000000-0", "p9999999999999999999", "pm", "pp000000-0000", "p0000000000-0000", "p-000000-0000",
		"a", "mp", "0p", "-p",
	} {
		files[name] = []byte("a stranger's")
	}
	return files
}

func TestSweep(t *testing.T) {
	x := begin(t, 100000, swept())
	x.both(func(d *disk.Disk) {
		d.Write("~p000000-0009", nil)
		d.Write("p000000~0000", nil)
		d.Write("p00000000000000000000000", nil)
		d.Sync()
	})
	x.wants(nil, x.sweep())
	names, _ := x.d.List()
	var left []string
	for _, name := range names {
		if strings.HasPrefix(name, "p") {
			left = append(left, name)
		}
	}
	want := []string{"p000000-0000", "p000000-0001", "p00000000000000000000000", "p000000~0000", "p000002-0000", "p000002-0001", "p000003-0000", "p000003-0001", "p000004-0000"}
	if !slices.Equal(left, want) || x.d.Pending() != 0 {
		t.Error(left)
	}
	for name := range swept() {
		if name[0] != 'p' && !slices.Contains(names, name) {
			t.Error(name)
		}
	}
	x.both(func(d *disk.Disk) { d.Fuse(0) })
	x.wants(nil, x.sweep())
	x.both(func(d *disk.Disk) { d.Cut() })
	x.wants(api.ErrDown, x.sweep())
}

// The names' order, wherever the power goes, and whatever is kept.
func TestSweepWithFuse(t *testing.T) {
	for fuse := 0; ; fuse++ {
		for _, kept := range []bool{true, false} {
			x := begin(t, 100000, swept())
			x.both(func(d *disk.Disk) { d.Fuse(fuse) })
			err := x.sweep()
			if err == nil {
				return
			}
			x.wants(api.ErrDown, err)
			x.both(func(d *disk.Disk) {
				d.Cut(kept)
				d.Start()
			})
			x.wants(nil, x.sweep())
			if n, err := x.v.Check(); n != 4 || err != nil {
				t.Error(fuse, n, err)
			}
		}
	}
}

// What was added, and never committed, is swept; so is all of a vault without a chain.
func TestSweepWhatWasAdded(t *testing.T) {
	x := begin(t, 100000, nil)
	x.wants(nil, x.add(0, 0, mixed(0, 3)))
	x.wants(nil, x.add(0, 1, mixed(3, 3)))
	x.wants(nil, x.add(0, 2, mixed(6, 3)))
	x.wants(nil, x.commit(following(nil, 0, partsOf(mixed(0, 3), mixed(3, 3))...)))
	x.wants(nil, x.add(1, 0, mixed(6, 3)))
	x.wants(nil, x.sweep())
	if names, _ := x.d.List(); !slices.Equal(names, []string{"m000000", "p000000-0000", "p000000-0001"}) {
		t.Error(names)
	}
	x.wants(api.ErrNone, x.commit(following(x.v.Chain(), 0, partOf(mixed(6, 3)))))
	x.wants(nil, x.deleteObject("m000000"))
	x.wants(nil, x.open())
	x.wants(nil, x.sweep())
	if names, _ := x.d.List(); len(names) != 0 {
		t.Error(names)
	}
}

// P17.1: Check.

func TestCheckTellsHowManyWereRight(t *testing.T) {
	b := five()
	// The parts that end above the mark, in order.
	needed := []string{"p000002-0001", "p000003-0000", "p000003-0001", "p000004-0000"}
	for i, name := range needed {
		x := begin(t, 100000, b.files())
		x.wants(nil, x.putObject(name, []byte("x")))
		if n, err := x.v.Check(); n != i || err != api.ErrSum {
			t.Error(name, n, err)
		}
		x.wants(nil, x.deleteObject(name))
		if n, err := x.v.Check(); n != i || err != api.ErrNone {
			t.Error(name, n, err)
		}
		for _, later := range needed[i+1:] {
			x.wants(nil, x.putObject(later, nil))
		}
		if n, err := x.v.Check(); n != i || err != api.ErrNone {
			t.Error(name, n, err)
		}
		x.both(func(d *disk.Disk) { d.Cut() })
		if n, err := x.v.Check(); n != 0 || err != api.ErrDown {
			t.Error(name, n, err)
		}
	}
	for _, name := range []string{"p000000-0000", "p000000-0001", "p000002-0000"} {
		x := begin(t, 100000, b.files())
		x.wants(nil, x.putObject(name, []byte("x")))
		if n, err := x.v.Check(); n != 4 || err != nil {
			t.Error(name, n, err)
		}
	}
}
