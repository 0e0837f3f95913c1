package shelf_test

import (
	"maps"
	"testing"

	"holdfast/api"
	"holdfast/disk"
	"holdfast/record"
	"holdfast/shelf"
	"holdfast/unit"
)

// strangers is objects, and other files, that look like a base or an act, and are none.
func strangers() map[string][]byte {
	files := map[string][]byte{}
	for _, name := range []string{
		"b", "r", "b0000000", "r0000000", "b000000000", "r000000000", "b100000000", "r100000000", "b-0000001", "r-0000001", "b0000000a", "r0000000.",
		"a00000001", "c00000001", "q00000000", "s00000000", "bb00000001", "rr0000000", "b00000001.", "r00000000-", "b00000002~", "r00000000~", "x",
	} {
		files[name] = []byte("a stranger's")
	}
	return files
}

// P10.1: Open.

func TestOpenOfNothing(t *testing.T) {
	d := fresh(t, 0)
	d.Fuse(0)
	s, err := shelf.Open(d)
	if err != nil {
		t.Fatal(err)
	}
	if !unit.Same(s.Unit(), unit.New()) || s.Epoch() != 0 || s.Next() != 0 || s.Broken() || s.Disk() != d || d.Down() {
		t.Error(showUnit(s.Unit()), s.Next(), s.Broken())
	}
}

// What is found on a disk, and the unit that it is, or the error.
func TestOpenFinds(t *testing.T) {
	base := func(acts ...record.Act) []byte { return unitBytes(unitOf(acts...)) }
	spoilt := func(b []byte) []byte { b[len(b)-1] ^= 1; return b }
	none := []byte{}
	a, b, c := actBytes(write(0, 0, "a")), actBytes(write(0, 1, "b")), actBytes(write(0, 2, "c"))
	for name, x := range map[string]struct {
		files map[string][]byte
		unit  string
		next  int
		err   error
	}{
		"strangers":          {strangers(), "0 from 0:", 0, nil},
		"acts":               {map[string][]byte{"r00000000": a, "r00000001": b}, `0 from 0: 0=data:"a" 1=data:"b"`, 2, nil},
		"a gap":              {map[string][]byte{"r00000000": a, "r00000002": b}, `0 from 0: 0=data:"a"`, 1, nil},
		"spoilt behind it":   {map[string][]byte{"r00000000": a, "r00000002": none}, `0 from 0: 0=data:"a"`, 1, nil},
		"no first one":       {map[string][]byte{"r00000001": a}, "0 from 0:", 0, nil},
		"a base":             {map[string][]byte{"b00000007": base(seal(3), fill(3, 1))}, "3 from 0: 1=hole:\"\"", 7, nil},
		"a base of 0":        {map[string][]byte{"b00000000": base(seal(3)), "r00000000": actBytes(seal(4))}, "4 from 0:", 1, nil},
		"and acts":           {map[string][]byte{"b00000001": base(), "r00000000": a, "r00000001": b, "r00000002": c, "r00000004": a}, `0 from 0: 1=data:"b" 2=data:"c"`, 3, nil},
		"the greatest":       {map[string][]byte{"b00000009": base(seal(9)), "b00000010": base(seal(1)), "b00000002": base(seal(5))}, "1 from 0:", 10, nil},
		"elder ones spoilt":  {map[string][]byte{"b00000003": none, "b00000004": base(seal(2)), "r00000002": none, "r00000003": none}, "2 from 0:", 4, nil},
		"a spoilt base":      {map[string][]byte{"b00000003": spoilt(base()), "b00000002": base(), "r00000000": a}, "", 0, api.ErrSum},
		"an empty base":      {map[string][]byte{"b00000003": none}, "", 0, api.ErrForm},
		"an act as a base":   {map[string][]byte{"b00000000": actBytes(seal(1 << 40))}, "", 0, api.ErrRange},
		"a spoilt act":       {map[string][]byte{"r00000000": a, "r00000001": spoilt(actBytes(seal(1)))}, "", 0, api.ErrSum},
		"an empty act":       {map[string][]byte{"r00000000": none}, "", 0, api.ErrForm},
		"a base as an act":   {map[string][]byte{"r00000000": base()}, "", 0, api.ErrRange},
		"two acts in one":    {map[string][]byte{"r00000000": append(actBytes(seal(1)), b...)}, "", 0, api.ErrForm},
		"the first error":    {map[string][]byte{"r00000000": none, "r00000001": spoilt(actBytes(seal(1)))}, "", 0, api.ErrForm},
		"the other way":      {map[string][]byte{"r00000000": spoilt(actBytes(seal(1))), "r00000001": none}, "", 0, api.ErrSum},
		"the base goes":      {map[string][]byte{"b00000001": none, "r00000001": spoilt(actBytes(seal(1)))}, "", 0, api.ErrForm},
		"can't be done":      {map[string][]byte{"r00000000": a, "r00000001": a}, "", 0, api.ErrState},
		"an elder epoch":     {map[string][]byte{"b00000001": base(seal(1)), "r00000001": a}, "", 0, api.ErrState},
		"a later epoch":      {map[string][]byte{"r00000000": actBytes(fill(1, 0))}, "", 0, api.ErrState},
		"trimmed":            {map[string][]byte{"b00000000": base(trim(0, 3)), "r00000000": actBytes(cut(0, 2))}, "", 0, api.ErrState},
		"spoilt behind that": {map[string][]byte{"r00000000": a, "r00000001": a, "r00000002": spoilt(actBytes(seal(1)))}, "", 0, api.ErrSum},
	} {
		d := fresh(t, 10000)
		lay(t, d, x.files)
		before := showDisk(d)
		s, err := shelf.Open(d)
		if err != x.err || (s == nil) != (err != nil) || showDisk(d) != before {
			t.Errorf("%s: %v, want %v; %s", name, err, x.err, showDisk(d))
			continue
		}
		if s != nil && (showUnit(s.Unit()) != x.unit || s.Next() != x.next || s.Broken()) {
			t.Errorf("%s: %d %s", name, s.Next(), showUnit(s.Unit()))
		}
		if p, err := plainOpen(d); err != x.err || s != nil && (showUnit(p.unit()) != x.unit || p.next != x.next) {
			t.Errorf("%s: the plain one: %v", name, err)
		}
	}
}

// What was being put is no object, and is removed.
func TestOpenSweeps(t *testing.T) {
	files := map[string][]byte{"~r00000001": actBytes(seal(9)), "~b00000001": nil, "~": nil, "r00000000": actBytes(seal(1))}
	for fuse := range 5 {
		d := fresh(t, 1000)
		lay(t, d, files)
		d.Fuse(fuse)
		s, err := shelf.Open(d)
		if fuse < 4 {
			if s != nil || err != api.ErrDown || d.Pending() != fuse {
				t.Error(fuse, err, d.Pending())
			}
			d.Start()
			if s, err = shelf.Open(d); err != nil {
				t.Fatal(fuse, err)
			}
		}
		if names, _ := d.List(); err != nil || s.Epoch() != 1 || s.Next() != 1 || len(names) != 1 {
			t.Error(fuse, err, names)
		}
	}
}

// What is wrong with the disk goes ahead of what is wrong with what stands there.
func TestOpenWithoutPower(t *testing.T) {
	d := fresh(t, 1000)
	lay(t, d, map[string][]byte{"r00000000": []byte("spoilt")})
	d.Cut()
	if s, err := shelf.Open(d); s != nil || err != api.ErrDown {
		t.Error(err)
	}
	d.Start()
	if s, err := shelf.Open(d); s != nil || err != api.ErrForm {
		t.Error(err)
	}
	d.Write("~x", nil)
	d.Fuse(1)
	if s, err := shelf.Open(d); s != nil || err != api.ErrDown {
		t.Error(err)
	}
}

// An act that stands behind a gap is read as soon as the gap is closed, as all acts of the next numbers are.
func TestOpenBehindAGap(t *testing.T) {
	files := map[string][]byte{"r00000001": actBytes(write(0, 1, "b"))}
	x := begin(t, 1000, maps.Clone(files))
	x.all(write(0, 0, "a"))
	if x.s.Next() != 1 {
		t.Error(x.s.Next())
	}
	x.wants(nil, x.open())
	x.wantsUnit(write(0, 0, "a"), write(0, 1, "b"))
	x = begin(t, 1000, files)
	x.all(write(0, 1, "a"))
	x.wants(api.ErrState, x.open())
	x.both(func(d *disk.Disk) {
		d.Remove("r00000001")
		d.Sync()
	})
	x.wants(nil, x.open())
	x.wantsUnit(write(0, 1, "a"))
}
