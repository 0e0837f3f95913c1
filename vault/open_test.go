package vault_test

import (
	"bytes"
	"crypto/sha256"
	"encoding/binary"
	"hash/crc32"
	"maps"
	"testing"

	"holdfast/api"
	"holdfast/manifest"
	"holdfast/sha"
	"holdfast/vault"
)

// strangers is objects, and other files, whose names look like a manifest's or a segment's, and are none.
func strangers() map[string][]byte {
	files := map[string][]byte{}
	for _, name := range []string{
		"m", "m00000", "m0000000", "m-00000", "m00000a", "m00000.", "m000000.", "m000000~", "n000000", "a000000", "000000", "mm00000", "m000000-0000",
		"p", "p000000", "p00000-0000", "p0000000-0000", "p000000-000", "p000000-00000", "p000000.0000", "p000000-0000.", "p-00000-0000", "q000000-0000", "x", "c-export",
	} {
		files[name] = []byte("a stranger's")
	}
	return files
}

// but is files, of which some are otherwise.
func but(files map[string][]byte, change func(files map[string][]byte)) map[string][]byte {
	files = maps.Clone(files)
	change(files)
	return files
}

// P17.1: Open.

func TestOpenOfNothing(t *testing.T) {
	d := fresh(t, 0)
	d.Fuse(0)
	v, err := vault.Open(d)
	if err != nil || v == nil {
		t.Fatal(err)
	}
	if list := v.Chain(); len(list) != 0 || v.Store().Disk() != d || d.Down() {
		t.Error(list)
	}
	if n, err := v.Check(); n != 0 || err != nil {
		t.Error(n, err)
	}
	if c, err := v.Read(0); c.Kind != 0 || c.Data != nil || err != api.ErrNone {
		t.Error(c, err)
	}
	if v, err := vault.Open(nil); v != nil || err != api.ErrNone {
		t.Error(v, err)
	}
}

// What is found on a disk: how many manifests, or the error.
func TestOpenFinds(t *testing.T) {
	whole := five().files()
	list := five().chain()
	spoilt := func(name string) []byte {
		b := []byte(string(whole[name]))
		b[len(b)-1] ^= 1
		return b
	}
	set := func(name string, b []byte) map[string][]byte {
		return but(whole, func(files map[string][]byte) { files[name] = b })
	}
	without := func(names ...string) map[string][]byte {
		return but(whole, func(files map[string][]byte) {
			for _, name := range names {
				delete(files, name)
			}
		})
	}
	later := list[1]
	later.Trim++
	for name, x := range map[string]struct {
		files map[string][]byte
		many  int
		err   error
	}{
		"strangers":                {strangers(), 0, nil},
		"five":                     {whole, 5, nil},
		"five, and strangers":      {but(strangers(), func(files map[string][]byte) { maps.Copy(files, whole) }), 5, nil},
		"no first one":             {without("m000000"), 0, nil},
		"a gap":                    {without("m000003"), 3, nil},
		"spoilt behind the gap":    {but(without("m000003"), func(files map[string][]byte) { files["m000004"] = nil }), 3, nil},
		"no segments":              {map[string][]byte{"m000000": whole["m000000"]}, 1, nil},
		"another one's segments":   {set("p000000-0000", []byte("x")), 5, nil},
		"the first one spoilt":     {set("m000000", spoilt("m000000")), 0, api.ErrSum},
		"the last one spoilt":      {set("m000004", spoilt("m000004")), 0, api.ErrSum},
		"an empty one":             {set("m000002", nil), 0, api.ErrForm},
		"a segment":                {set("m000002", whole["p000000-0000"]), 0, api.ErrForm},
		"a number too high":        {set("m000001", segmentBytes(mixed(1<<20-1, 1))), 0, api.ErrRange},
		"the first error in order": {but(set("m000001", nil), func(files map[string][]byte) { files["m000003"] = spoilt("m000003") }), 0, api.ErrForm},
		"the other way":            {but(set("m000003", nil), func(files map[string][]byte) { files["m000001"] = spoilt("m000001") }), 0, api.ErrSum},
		"not number 0":             {set("m000000", whole["m000001"]), 0, api.ErrChain},
		"alone, not number 0":      {map[string][]byte{"m000000": whole["m000004"]}, 0, api.ErrChain},
		"one twice":                {set("m000002", whole["m000001"]), 0, api.ErrChain},
		"one left out":             {but(without("m000004"), func(files map[string][]byte) { files["m000003"] = whole["m000004"] }), 0, api.ErrChain},
		"another one":              {set("m000001", manifestBytes(later)), 0, api.ErrChain},
		"another one, at the end":  {but(without("m000002"), func(files map[string][]byte) { files["m000001"] = manifestBytes(later) }), 2, nil},
		// What can't be taken goes ahead of what doesn't follow, wherever each stands.
		"not number 0, and one spoilt": {but(set("m000000", whole["m000001"]), func(files map[string][]byte) { files["m000004"] = spoilt("m000004") }), 0, api.ErrSum},
		"not number 0, and one empty":  {but(set("m000000", whole["m000001"]), func(files map[string][]byte) { files["m000001"] = nil }), 0, api.ErrForm},
	} {
		d := fresh(t, 100000)
		lay(t, d, x.files)
		before := showDisk(d)
		v, err := vault.Open(d)
		if err != x.err || (v == nil) != (err != nil) || showDisk(d) != before {
			t.Errorf("%s: %v, want %v; %s", name, err, x.err, showDisk(d))
			continue
		}
		if got := v.Chain(); len(got) != x.many || name != "another one, at the end" && showAll(got) != showAll(list[:x.many]) {
			t.Errorf("%s: %s", name, showAll(got))
		}
		if p, err := plainOpen(d); err != x.err || err == nil && showAll(p.list) != showAll(v.Chain()) {
			t.Errorf("%s: the plain one: %v", name, err)
		}
	}
}

// Whichever bit of a manifest is turned, it is found out.
func TestOpenOfSpoiltManifests(t *testing.T) {
	files := five().files()
	for number := range 5 {
		name := manifestFile(number)
		for i := range len(files[name]) * 8 {
			b := bytes.Clone(files[name])
			b[i/8] ^= 1 << (i % 8)
			d := fresh(t, 100000)
			lay(t, d, but(files, func(files map[string][]byte) { files[name] = b }))
			if v, err := vault.Open(d); v != nil || err == nil {
				t.Error(name, i)
			}
		}
	}
}

// What was being put is no object, and is removed; the power may go while it is.
func TestOpenSweeps(t *testing.T) {
	files := but(five().files(), func(files map[string][]byte) {
		files["~m000005"], files["~p000005-0000"], files["~"] = nil, []byte("x"), nil
	})
	for fuse := range 5 {
		d := fresh(t, 100000)
		lay(t, d, files)
		d.Fuse(fuse)
		v, err := vault.Open(d)
		if fuse < 4 {
			if v != nil || err != api.ErrDown || d.Pending() != fuse {
				t.Error(fuse, err, d.Pending())
			}
			d.Start()
			if v, err = vault.Open(d); err != nil {
				t.Fatal(fuse, err)
			}
		}
		if names, _ := d.List(); err != nil || len(v.Chain()) != 5 || len(names) != len(files)-3 {
			t.Error(fuse, err, names)
		}
	}
}

// What is wrong with the disk goes ahead of what is wrong with what stands there.
func TestOpenWithoutPower(t *testing.T) {
	d := fresh(t, 1000)
	lay(t, d, map[string][]byte{"m000000": []byte("spoilt")})
	d.Cut()
	if v, err := vault.Open(d); v != nil || err != api.ErrDown {
		t.Error(err)
	}
	d.Start()
	if v, err := vault.Open(d); v != nil || err != api.ErrForm {
		t.Error(err)
	}
	d.Write("~x", nil)
	d.Fuse(1)
	if v, err := vault.Open(d); v != nil || err != api.ErrDown {
		t.Error(err)
	}
}

// Manifests are read when it is opened, segments whenever they are asked for.
func TestWhatIsRead(t *testing.T) {
	b := five()
	x := begin(t, 100000, b.files())
	x.wants(nil, x.deleteObject("m000002"))
	x.wants(nil, x.putObject("m000004", []byte("spoilt")))
	x.wants(nil, x.deleteObject("m000000"))
	if len(x.v.Chain()) != 5 {
		t.Error(showAll(x.v.Chain()))
	}
	if n, err := x.v.Check(); n != 4 || err != nil {
		t.Error(n, err)
	}
	x.wants(nil, x.deleteObject("p000003-0001"))
	if n, err := x.v.Check(); n != 2 || err != api.ErrNone {
		t.Error(n, err)
	}
	x.wants(nil, x.putObject("p000003-0001", segmentBytes(b.segments[3][1])))
	x.wants(nil, x.putObject("p000003-0000", []byte("x")))
	if n, err := x.v.Check(); n != 1 || err != api.ErrSum {
		t.Error(n, err)
	}
	// What was put by others is read as soon as it is opened anew.
	x.wants(nil, x.putObject("m000000", manifestBytes(b.chain()[0])))
	x.wants(nil, x.open())
	if len(x.v.Chain()) != 2 {
		t.Error(showAll(x.v.Chain()))
	}
	x.wants(nil, x.putObject("m000002", manifestBytes(b.chain()[2])))
	x.wants(nil, x.putObject("m000004", manifestBytes(b.chain()[4])))
	if len(x.v.Chain()) != 2 {
		t.Error(showAll(x.v.Chain()))
	}
	x.wants(nil, x.open())
	if len(x.v.Chain()) != 5 {
		t.Error(showAll(x.v.Chain()))
	}
}

// As many parts as a manifest may have, which are more than a disk has files, but where a cut left them.
func TestAsManyPartsAsThereAre(t *testing.T) {
	files := map[string][]byte{}
	var parts []manifest.Part
	for place := range 1024 {
		s := mixed(place, 1)
		parts = append(parts, partOf(s))
		files[segmentFile(0, place)] = segmentBytes(s)
	}
	files["m000000"] = manifestBytes(following(nil, 3, parts...))
	for _, name := range []string{"p000000-1024", "p000001-0000", "p000000-9999", "p999999-0000"} {
		files[name] = nil
	}
	d := fresh(t, 1<<20)
	lay(t, d, files)
	v, err := vault.Open(d)
	if err != nil {
		t.Fatal(err)
	}
	if n, err := v.Check(); n != 1021 || err != nil {
		t.Error(n, err)
	}
	if s, err := v.Get(0, 1023); s.First != 1023 || err != nil {
		t.Error(s, err)
	}
	if s, err := v.Get(0, 1024); s.Cells != nil || err != api.ErrRange {
		t.Error(s, err)
	}
	if c, err := v.Read(1022); string(c.Data) != "cell 1022" || err != nil {
		t.Error(c, err)
	}
	if p, err := v.Add(1, 0, mixed(1024, 1)); p != (manifest.Part{}) || err != api.ErrFull {
		t.Error(p, err)
	}
	if err := v.Sweep(); err != nil {
		t.Error(err)
	}
	if names, _ := d.List(); len(names) != 1025 || names[0] != "m000000" || names[1] != "p000000-0000" || names[1024] != "p000000-1023" {
		t.Error(len(names))
	}
}

const numbers = 1000000

// all is as many manifests as there are numbers, of no parts each, as bytes by the library.
func all(yield func(number int, b []byte) bool) {
	table := crc32.MakeTable(crc32.Castagnoli)
	var prev sha.Digest
	for number := range numbers {
		text := append(binary.AppendUvarint(nil, uint64(number)), 0, 0, 0)
		text = append(append(text, prev[:]...), 0)
		b := append(binary.AppendUvarint(nil, uint64(len(text))), text...)
		b = binary.BigEndian.AppendUint32(b, crc32.Checksum(b, table))
		if !yield(number, b) {
			return
		}
		prev = sha256.Sum256(b)
	}
}

// As many manifests as there are numbers: none follows the last one.
func TestEndOfTheNumbers(t *testing.T) {
	if testing.Short() {
		t.Skip("takes seconds")
	}
	d := fresh(t, 1000)
	var files laying
	var last []byte
	for number, b := range all {
		files.add(t, d, manifestFile(number), b)
		last = b
	}
	for _, name := range []string{"m1000000", "p999999-0000", "p1000000-0000"} {
		files.add(t, d, name, []byte("a stranger's"))
	}
	files.end(d)
	v, err := vault.Open(d)
	if err != nil {
		t.Fatal(err)
	}
	if list := v.Chain(); len(list) != numbers || string(manifestBytes(list[numbers-1])) != string(last) {
		t.Error(len(list))
	}
	for _, number := range []int{numbers - 1, numbers, numbers + 1} {
		if p, err := v.Add(number, 0, mixed(0, 1)); p != (manifest.Part{}) || err != api.ErrRange {
			t.Error(number, p, err)
		}
		if s, err := v.Get(number, 0); s.Cells != nil || err != api.ErrRange {
			t.Error(number, s, err)
		}
	}
	if err := v.Sweep(); err != nil || v.Store().Has("p999999-0000") || v.Store().Has("p1000000-0000") || !v.Store().Has("m1000000") {
		t.Error(err)
	}
}
