package store_test

import (
	"math/rand"
	"slices"
	"strconv"
	"strings"
	"testing"

	"holdfast/api"
	"holdfast/disk"
	"holdfast/store"
)

func right() []string {
	return []string{"a", "z", "0", "9", "-", ".", "..", "a-b.c", "m000001", "s00000001-00000064", strings.Repeat("a", 20)}
}

func wrong() []string {
	return []string{
		"", "~", "~a", "a~", "a~b", "A", "aB", "a b", " a", "a/b", "a_b", "a\x00", "\xff", "é", "a\u0161",
		strings.Repeat("a", 21), strings.Repeat("a", 24), strings.Repeat("a", 25), strings.Repeat("a", 1000),
	}
}

func long(n int) string { return strings.Repeat("x", n) }

// P7.1: Named.

func TestNamed(t *testing.T) {
	for _, name := range right() {
		if !store.Named(name) {
			t.Errorf("%q is no name", name)
		}
	}
	for _, name := range wrong() {
		if store.Named(name) {
			t.Errorf("%q is a name", name)
		}
	}
	for n := range 40 {
		if got := store.Named(strings.Repeat("b", n)); got != (n >= 1 && n <= 20) {
			t.Error(n, got)
		}
	}
	for b := range 256 {
		sign := string([]byte{byte(b)})
		want := strings.Contains("abcdefghijklmnopqrstuvwxyz0123456789-.", sign)
		for _, name := range []string{sign, sign + "a", "a" + sign, "a" + sign + "a", strings.Repeat("a", 19) + sign} {
			if got := store.Named(name); got != want {
				t.Errorf("Named(%q) = %v", name, got)
			}
		}
	}
}

// P7.1: Put and Get.

func TestPut(t *testing.T) {
	x := begin(t, 1000)
	x.wants(nil, x.put("b", "one"))
	x.wants(nil, x.put("a", ""))
	x.wants(nil, x.put("ab", long(300)))
	x.wants(nil, x.put("b", "two"))
	x.wants(nil, x.put("ab", "4"))
	if b, err := x.s.Get("b"); string(b) != "two" || err != nil {
		t.Error(b, err)
	}
	if b, err := x.s.Get("a"); len(b) != 0 || err != nil {
		t.Error(b, err)
	}
	if l, err := x.s.List(""); !slices.Equal(l, []string{"a", "ab", "b"}) || err != nil {
		t.Error(l, err)
	}
	if d := x.s.Disk(); d.Pending() != 0 || d.Used() != 4 || len(d.Sure()) != 3 {
		t.Error(d.Pending(), d.Used(), d.Sure())
	}
	if err := x.s.Put("none", nil); err != nil || !x.s.Has("none") {
		t.Error(err)
	}
	for _, name := range right() {
		if err := x.s.Put(name, []byte(name)); err != nil {
			t.Errorf("%q: %v", name, err)
		}
	}
	for _, name := range right() {
		if b, err := x.s.Get(name); string(b) != name || err != nil {
			t.Errorf("%q: %q, %v", name, b, err)
		}
	}
}

func TestPutRefuses(t *testing.T) {
	x := begin(t, 140000)
	for _, name := range wrong() {
		for _, text := range []string{"", "x", long(65537)} {
			x.wants(api.ErrForm, x.put(name, text))
		}
		if b, err := x.s.Get(name); b != nil || err != api.ErrForm {
			t.Errorf("Get(%q): %v, %v", name, b, err)
		}
		if x.s.Has(name) {
			t.Errorf("Has(%q)", name)
		}
	}
	x.wants(nil, x.put("a", long(65536)))
	x.wants(api.ErrLong, x.put("a", long(65537)))
	x.wants(api.ErrLong, x.put("b", long(65537)))
	if b, err := x.s.Get("a"); string(b) != long(65536) || err != nil {
		t.Error(len(b), err)
	}
	if b, err := x.s.Get("b"); b != nil || err != api.ErrNone {
		t.Error(b, err)
	}
}

// An object that is put again needs room beside the one that was there.
func TestPutAndTheRoom(t *testing.T) {
	x := begin(t, 10)
	x.wants(nil, x.put("a", "123456"))
	x.wants(api.ErrFull, x.put("a", "12345"))
	x.wants(api.ErrFull, x.put("b", "12345"))
	if b, err := x.s.Get("a"); string(b) != "123456" || err != nil {
		t.Error(b, err)
	}
	x.wants(nil, x.put("a", "1234"))
	x.wants(nil, x.put("a", "12345"))
	x.wants(nil, x.put("a", "12345"))
	x.wants(nil, x.delete("a"))
	x.wants(nil, x.put("b", "1234567890"))
}

func TestPutAndTheNumberOfFiles(t *testing.T) {
	d := fresh(t, 100)
	s, err := store.Open(d)
	if err != nil {
		t.Fatal(err)
	}
	for i := range 511 {
		if err := s.Put("f"+strconv.Itoa(i), nil); err != nil {
			t.Fatal(i, err)
		}
	}
	if err := s.Put("f0", []byte("x")); err != nil {
		t.Error(err)
	}
	if err := s.Put("g", nil); err != nil {
		t.Error(err)
	}
	for _, name := range []string{"f0", "h"} {
		if err := s.Put(name, nil); err != api.ErrFull {
			t.Error(name, err)
		}
	}
	if l, err := s.List(""); len(l) != 512 || !slices.IsSorted(l) || err != nil {
		t.Error(len(l), err)
	}
}

// P7.1: Delete, List, Has.

func TestDelete(t *testing.T) {
	x := begin(t, 100)
	for _, name := range []string{"a", "ab", "b"} {
		x.wants(nil, x.put(name, name))
	}
	x.wants(nil, x.delete("ab"))
	x.wants(api.ErrNone, x.delete("ab"))
	x.wants(api.ErrNone, x.delete("none"))
	for _, name := range wrong() {
		x.wants(api.ErrForm, x.delete(name))
	}
	if l, err := x.s.List(""); !slices.Equal(l, []string{"a", "b"}) || err != nil {
		t.Error(l, err)
	}
	if x.s.Has("ab") || !x.s.Has("a") {
		t.Error("has")
	}
	// What is being put elsewhere is no object that could be deleted.
	x.both(func(d *disk.Disk) { d.Write("~a", nil) })
	x.wants(api.ErrForm, x.delete("~a"))
}

func TestList(t *testing.T) {
	x := begin(t, 100)
	for _, name := range []string{"m2", "s1", "m1", "m10", ".", "m", "-m"} {
		x.wants(nil, x.put(name, name))
	}
	x.both(func(d *disk.Disk) {
		d.Write("~m3", nil)
		d.Write("m~", nil)
		d.Write("m"+strings.Repeat("4", 20), nil)
	})
	for _, c := range []struct{ begin, want string }{
		{"", "-m . m m1 m10 m2 s1"},
		{"m", "m m1 m10 m2"},
		{"m1", "m1 m10"},
		{"m10", "m10"},
		{"m100", ""},
		{"~", ""},
		{"~m", ""},
		{"M", ""},
		{"m~", ""},
		{"m4", ""},
		{".", "."},
		{"\xff", ""},
		{long(100), ""},
	} {
		got, err := x.s.List(c.begin)
		if strings.Join(got, " ") != c.want || err != nil {
			t.Errorf("List(%q): %q, %v", c.begin, got, err)
		}
	}
	for _, name := range []string{"m~", "~m3", "m" + strings.Repeat("4", 20)} {
		if b, err := x.s.Get(name); b != nil || err != api.ErrForm || x.s.Has(name) {
			t.Error(name, b, err)
		}
	}
}

func TestWithoutPower(t *testing.T) {
	x := begin(t, 100)
	x.wants(nil, x.put("a", "1"))
	x.both(func(d *disk.Disk) { d.Cut() })
	x.wants(api.ErrDown, x.put("a", "2"))
	x.wants(api.ErrDown, x.put("a", long(65537)))
	x.wants(api.ErrForm, x.put("A", "2"))
	x.wants(api.ErrDown, x.delete("a"))
	x.wants(api.ErrDown, x.delete("none"))
	x.wants(api.ErrForm, x.delete("~"))
	x.wants(api.ErrDown, x.open())
	if b, err := x.s.Get("a"); b != nil || err != api.ErrDown || x.s.Has("a") {
		t.Error(b, err)
	}
	if l, err := x.s.List(""); l != nil || err != api.ErrDown {
		t.Error(l, err)
	}
	x.both(func(d *disk.Disk) { d.Start() })
	x.wants(nil, x.open())
	if b, err := x.s.Get("a"); string(b) != "1" || err != nil {
		t.Error(b, err)
	}
}

// P7.1: Open.

func TestOpen(t *testing.T) {
	x := begin(t, 100)
	x.both(func(d *disk.Disk) {
		for _, name := range []string{"a", "~", "~~", "~a", "a~", "b~c", "~" + strings.Repeat("z", 23)} {
			d.Write(name, []byte(name[:1]))
		}
		d.Sync()
		d.Write("~late", nil)
	})
	x.wants(nil, x.open())
	l, err := x.s.Disk().List()
	if !slices.Equal(l, []string{"a", "a~", "b~c"}) || err != nil {
		t.Error(l, err)
	}
	if n := x.s.Disk().Pending(); n != 0 {
		t.Error(n)
	}
}

// Where nothing was being put, nothing is synced.
func TestOpenOfACleanDisk(t *testing.T) {
	x := begin(t, 100)
	x.both(func(d *disk.Disk) {
		d.Write("a", nil)
		d.Fuse(0)
	})
	x.wants(nil, x.open())
	if n := x.s.Disk().Pending(); n != 1 || x.s.Disk().Down() {
		t.Error(n)
	}
}

func TestOpenAtEachFuse(t *testing.T) {
	for n := range 5 {
		x := begin(t, 100)
		x.both(func(d *disk.Disk) {
			for _, name := range []string{"~c", "a", "~b", "~a"} {
				d.Write(name, nil)
			}
			d.Sync()
			d.Fuse(n)
		})
		want := error(api.ErrDown)
		if n == 4 {
			want = nil
		}
		x.wants(want, x.open())
		if got := x.s.Disk().Pending(); want != nil && got != n {
			t.Error(n, got)
		}
	}
}

// Two stores on one disk, one behind the other: what the first one put, the second one has.
func TestOpenAgain(t *testing.T) {
	x := begin(t, 100)
	x.wants(nil, x.put("a", "1"))
	x.wants(nil, x.open())
	if b, err := x.s.Get("a"); string(b) != "1" || err != nil {
		t.Error(b, err)
	}
}

// P7.1: nil.

func TestNil(t *testing.T) {
	if s, err := store.Open(nil); s != nil || err != api.ErrNone {
		t.Error(s, err)
	}
	var s *store.Store
	for _, name := range []string{"a", "", "A"} {
		if err := s.Put(name, make([]byte, 65537)); err != api.ErrNone {
			t.Error(err)
		}
		if b, err := s.Get(name); b != nil || err != api.ErrNone {
			t.Error(b, err)
		}
		if err := s.Delete(name); err != api.ErrNone {
			t.Error(err)
		}
		if l, err := s.List(name); l != nil || err != api.ErrNone {
			t.Error(l, err)
		}
		if s.Has(name) {
			t.Error("has")
		}
	}
	if s.Disk() != nil {
		t.Error("disk")
	}
}

// P7.1: what is handed in isn't kept, and what is answered isn't shared.

func TestMemory(t *testing.T) {
	x := begin(t, 100)
	b := []byte("spare room")[:5]
	if err := x.s.Put("a", b); err != nil || string(b[:10]) != "spare room" {
		t.Fatal(err)
	}
	b[0] = '?'
	got, err := x.s.Get("a")
	if string(got) != "spare" || err != nil {
		t.Fatal(got, err)
	}
	got[0] = '!'
	if again, _ := x.s.Get("a"); string(again) != "spare" {
		t.Error(string(again))
	}
	names, _ := x.s.List("")
	names[0] = "b"
	if again, _ := x.s.List(""); again[0] != "a" {
		t.Error(again)
	}
}

// P7.1: any calls, in any order.

func TestAnyOrder(t *testing.T) {
	names := append([]string{"a", "a", "ab", "ab", "b", "-", "."}, "~a", "", "A", long(21))
	for seed := range int64(60) {
		r := rand.New(rand.NewSource(seed))
		x := begin(t, 12)
		for range 150 {
			name := names[r.Intn(len(names))]
			switch r.Intn(9) {
			case 0, 1, 2, 3:
				x.put(name, strings.Repeat(strconv.Itoa(r.Intn(10)), r.Intn(6)))
			case 4, 5:
				x.delete(name)
			case 6:
				n := r.Intn(9)
				x.both(func(d *disk.Disk) { d.Fuse(n) })
			case 7:
				keep := make([]bool, r.Intn(5))
				for i := range keep {
					keep[i] = r.Intn(2) == 0
				}
				if r.Intn(2) == 0 {
					x.both(func(d *disk.Disk) { d.Cut(keep...) })
				}
			default:
				x.both(func(d *disk.Disk) { d.Start() })
				x.open()
			}
		}
	}
}
