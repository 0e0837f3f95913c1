package disk_test

import (
	"bytes"
	"math"
	"slices"
	"strconv"
	"strings"
	"testing"

	"holdfast/api"
	"holdfast/disk"
)

// right is names, and wrong is texts that are none.

func right() []string {
	return []string{"a", "z", "0", "9", "-", ".", "~", "~a", "a~", "..", "lease", "r00000001", "m000001.x-y~", strings.Repeat("a", 23), strings.Repeat("~", 24)}
}

func wrong() []string {
	return []string{
		"", "A", "aB", "a b", " a", "a ", "a/b", "a_b", "a\x00", "\x00", "a\n", "\xff", "é", "aé",
		// The lowest byte of each of these letters is that of a.
		"\u0161", "\u0461", "a\u0161",
		strings.Repeat("a", 25), strings.Repeat("a", 1000), strings.Repeat("A", 25),
	}
}

// P6.1: Named.

func TestNamed(t *testing.T) {
	for _, name := range right() {
		if !disk.Named(name) {
			t.Errorf("%q is no name", name)
		}
	}
	for _, name := range wrong() {
		if disk.Named(name) {
			t.Errorf("%q is a name", name)
		}
	}
	for n := range 40 {
		if got := disk.Named(strings.Repeat("b", n)); got != (n >= 1 && n <= 24) {
			t.Error(n, got)
		}
	}
}

func TestEachByteOfAName(t *testing.T) {
	for b := range 256 {
		sign := string([]byte{byte(b)})
		want := strings.Contains("abcdefghijklmnopqrstuvwxyz0123456789-.~", sign)
		for _, name := range []string{sign, sign + "a", "a" + sign, "a" + sign + "a", strings.Repeat("a", 23) + sign} {
			if got := disk.Named(name); got != want {
				t.Errorf("Named(%q) = %v", name, got)
			}
		}
	}
}

// P6.1: New.

func TestNew(t *testing.T) {
	for _, room := range []int{0, 1, 65536, 1<<30 - 1, 1 << 30} {
		begin(t, room).shows()
	}
	for _, room := range []int{-1, -2, 1<<30 + 1, 1 << 31, 1 << 32, math.MinInt, math.MaxInt} {
		if d, err := disk.New(room); d != nil || err != api.ErrRange {
			t.Errorf("New(%d) = %v, %v", room, d, err)
		}
	}
}

// P6.1: Write.

func TestWrite(t *testing.T) {
	x := begin(t, 1000)
	x.wants(nil, write("b", "one"))
	x.wants(nil, write("a", ""))
	x.wants(nil, write("~c", long(300)))
	x.shows("a", "", "b", "one", "~c", long(300))
	// Again: another text, one that is longer, and one that is shorter.
	x.wants(nil, write("b", "two"))
	x.wants(nil, write("a", "three"))
	x.wants(nil, write("~c", "4"))
	x.shows("a", "three", "b", "two", "~c", "4")
	if x.d.Pending() != 6 || x.d.Used() != 9 || len(x.d.Sure()) != 0 {
		t.Error(x.d.Pending(), x.d.Used(), x.d.Sure())
	}
	if err := x.d.Write("d", nil); err != nil {
		t.Error(err)
	}
	if b, err := x.d.Read("d"); len(b) != 0 || err != nil {
		t.Error(b, err)
	}
}

func TestWriteRefuses(t *testing.T) {
	x := begin(t, 70000)
	x.wants(nil, write("a", long(65536)))
	x.wants(api.ErrLong, write("a", long(65537)))
	x.wants(api.ErrLong, write("b", long(65537)))
	x.wants(api.ErrLong, write("b", long(70001)))
	x.wants(api.ErrLong, write("b", long(1<<20)))
	for _, name := range wrong() {
		x.wants(api.ErrForm, write(name, ""))
		x.wants(api.ErrForm, write(name, long(65537)))
		x.wants(api.ErrForm, write(name, long(65536)))
	}
	x.wants(api.ErrFull, write("b", long(65536)))
	x.shows("a", long(65536))
	if x.d.Pending() != 1 {
		t.Error("what was refused is a change", x.d.Pending())
	}
	for _, name := range right() {
		x.wants(nil, write(name, "x"))
	}
}

func TestWriteAndTheRoom(t *testing.T) {
	x := begin(t, 10)
	x.wants(api.ErrFull, write("a", long(11)))
	x.wants(nil, write("a", long(10)))
	x.wants(nil, write("b", ""))
	x.wants(api.ErrFull, write("b", "1"))
	x.wants(api.ErrFull, write("c", "1"))
	// What stood at the name ahead needs no room any more.
	x.wants(nil, write("a", "1234567890"))
	x.wants(nil, write("a", "123456"))
	x.wants(api.ErrFull, write("b", "12345"))
	x.wants(nil, write("b", "1234"))
	x.wants(nil, remove("a"))
	x.wants(api.ErrFull, write("c", "1234567"))
	x.wants(nil, write("c", "123456"))
	x.wants(nil, rename("c", "b"))
	x.wants(nil, write("d", "1234"))
	x.shows("b", "123456", "d", "1234")

	none := begin(t, 0)
	none.wants(api.ErrFull, write("a", "1"))
	none.wants(nil, write("a", ""))
	none.wants(api.ErrFull, write("a", "1"))
}

func TestWriteAndTheNumberOfFiles(t *testing.T) {
	x := begin(t, 100)
	d, p := x.d, x.p
	for i := range 512 {
		s := write("f"+strconv.Itoa(i), "")
		if err := s.of(d); err != nil {
			t.Fatal(i, err)
		}
		p.changes = append(p.changes, s)
	}
	x.same("512 files")
	x.wants(api.ErrFull, write("g", ""))
	x.wants(nil, write("f0", "1"))
	x.wants(nil, write("f511", "2"))
	x.wants(nil, rename("f1", "g"))
	x.wants(api.ErrFull, write("f1", ""))
	x.wants(nil, sync())
	x.wants(api.ErrFull, write("f1", ""))
	x.wants(nil, remove("f2"))
	x.wants(nil, write("f1", ""))
	x.wants(api.ErrFull, write("f2", ""))
	x.wants(nil, rename("f3", "f4"))
	x.wants(nil, write("f2", ""))
	x.wants(api.ErrFull, write("f3", ""))
}

// A cut that keeps what came, and not what went, leaves more than there is room for.
func TestWriteToADiskThatIsOverfull(t *testing.T) {
	x := begin(t, 10)
	x.wants(nil, write("a", "12345678"))
	x.wants(nil, sync())
	x.wants(nil, remove("a"))
	x.wants(nil, write("b", "12345678"))
	x.cut(false, true)
	x.start()
	x.shows("a", "12345678", "b", "12345678")
	x.wants(api.ErrFull, write("c", ""))
	x.wants(api.ErrFull, write("a", "12345678"))
	x.wants(api.ErrFull, write("a", "123"))
	x.wants(nil, write("a", "12"))
	x.wants(nil, write("c", ""))
}

// P6.1: Rename.

func TestRename(t *testing.T) {
	x := begin(t, 100)
	x.wants(nil, write("a", "1"))
	x.wants(nil, write("b", "22"))
	x.wants(nil, rename("a", "c"))
	x.shows("b", "22", "c", "1")
	// One that had the name is gone.
	x.wants(nil, rename("c", "b"))
	x.shows("b", "1")
	x.wants(nil, rename("b", "b"))
	x.shows("b", "1")
	if x.d.Pending() != 5 || x.d.Used() != 1 {
		t.Error(x.d.Pending(), x.d.Used())
	}
	x.wants(nil, sync())
	x.wants(nil, rename("b", "~b"))
	x.shows("~b", "1")
	x.cut()
	x.start()
	x.shows("b", "1")
}

func TestRenameRefuses(t *testing.T) {
	x := begin(t, 100)
	x.wants(nil, write("a", "1"))
	for _, name := range wrong() {
		x.wants(api.ErrForm, rename(name, "b"))
		x.wants(api.ErrForm, rename("a", name))
		x.wants(api.ErrForm, rename("none", name))
		x.wants(api.ErrForm, rename(name, name))
	}
	x.wants(api.ErrNone, rename("none", "b"))
	x.wants(api.ErrNone, rename("none", "a"))
	x.wants(api.ErrNone, rename("none", "none"))
	x.wants(nil, rename("a", "b"))
	// It is sure of nothing yet, and shows b alone.
	x.wants(api.ErrNone, rename("a", "c"))
	x.shows("b", "1")
	for _, name := range right() {
		x.wants(nil, write("x0", "2"))
		x.wants(nil, rename("x0", name))
	}
}

// P6.1: Remove.

func TestRemove(t *testing.T) {
	x := begin(t, 100)
	x.wants(nil, write("a", "1"))
	x.wants(nil, write("b", "2"))
	x.wants(nil, sync())
	x.wants(nil, remove("a"))
	x.shows("b", "2")
	x.wants(api.ErrNone, remove("a"))
	x.wants(api.ErrNone, remove("none"))
	for _, name := range wrong() {
		x.wants(api.ErrForm, remove(name))
	}
	if x.d.Pending() != 1 || x.d.Used() != 1 {
		t.Error(x.d.Pending(), x.d.Used())
	}
	x.cut()
	x.start()
	x.shows("a", "1", "b", "2")
	x.wants(nil, remove("a"))
	x.wants(nil, write("a", "3"))
	x.wants(nil, remove("b"))
	x.wants(nil, sync())
	x.shows("a", "3")
}

// P6.1: Sync.

func TestSync(t *testing.T) {
	x := begin(t, 100)
	x.wants(nil, sync())
	x.wants(nil, write("a", "1"))
	x.wants(nil, write("b", "2"))
	x.wants(nil, rename("b", "c"))
	x.wants(nil, remove("a"))
	if n := len(x.d.Sure()); n != 0 {
		t.Error("sure ahead of a sync", n)
	}
	x.wants(nil, sync())
	if got := x.d.Sure(); x.d.Pending() != 0 || len(got) != 1 || got[0].Name != "c" || string(got[0].Bytes) != "2" {
		t.Error(x.d.Pending(), got)
	}
	x.wants(nil, sync())
	x.cut()
	x.start()
	x.shows("c", "2")
}

// P6.1: Read, List, Sure.

func TestReadAndList(t *testing.T) {
	x := begin(t, 100)
	x.shows()
	names := []string{"m", "a", "zz", "z", "~", ".", "-", "0", "10", "9", "aa", "a-"}
	for _, name := range names {
		x.wants(nil, write(name, name+"!"))
	}
	slices.Sort(names)
	if list, err := x.d.List(); err != nil || !slices.Equal(list, names) {
		t.Error(list, err)
	}
	x.wants(nil, sync())
	x.wants(nil, remove("m"))
	for i, f := range x.d.Sure() {
		if f.Name != names[i] || string(f.Bytes) != names[i]+"!" {
			t.Error(i, f)
		}
	}
	for _, name := range append(wrong(), "m", "none") {
		if b, err := x.d.Read(name); b != nil || err != api.ErrNone {
			t.Errorf("Read(%q) = %v, %v", name, b, err)
		}
	}
}

// P6.1: a nil Disk.

func TestDiskIsNil(t *testing.T) {
	var d *disk.Disk
	for range 2 {
		for i, err := range []error{d.Write("a", nil), d.Write("", long65537()), d.Rename("a", "b"), d.Rename("", ""), d.Remove("a"), d.Remove(""), d.Sync(), d.Fuse(0), d.Fuse(1), d.Fuse(-1)} {
			if err != api.ErrNone {
				t.Error(i, err)
			}
		}
		if b, err := d.Read("a"); b != nil || err != api.ErrNone {
			t.Error(b, err)
		}
		if list, err := d.List(); list != nil || err != api.ErrNone {
			t.Error(list, err)
		}
		if !d.Down() || d.Pending() != 0 || d.Used() != 0 || len(d.Sure()) != 0 {
			t.Error(d.Down(), d.Pending(), d.Used(), d.Sure())
		}
		d.Cut()
		d.Cut(true, false)
		d.Start()
	}
}

func long65537() []byte { return make([]byte, 65537) }

// What was handed in is neither changed nor kept, and an answer is new memory.
func TestDiskSharesNothing(t *testing.T) {
	d, _ := disk.New(1000)
	room := []byte("abcdefgh")
	d.Write("a", room[:3])
	d.Write("b", room[:3])
	d.Sync()
	d.Write("c", room[3:6])
	keep := []bool{true, false}
	if string(room) != "abcdefgh" {
		t.Error("what was handed in is changed", room)
	}
	clear(room)
	asFirst := func() {
		t.Helper()
		for name, want := range map[string]string{"a": "abc", "b": "abc", "c": "def"} {
			b, err := d.Read(name)
			if string(b) != want || err != nil {
				t.Fatalf("%s is %q, %v", name, b, err)
			}
			wipe(b)
		}
		for _, f := range d.Sure() {
			if !bytes.Equal(f.Bytes, []byte("abc")) && f.Name != "c" {
				t.Fatal(f)
			}
			wipe(f.Bytes)
		}
		list, err := d.List()
		if !slices.Equal(list, []string{"a", "b", "c"}) || err != nil {
			t.Fatal(list, err)
		}
		clear(list)
	}
	asFirst()
	asFirst()
	d.Cut(keep...)
	if !slices.Equal(keep, []bool{true, false}) {
		t.Error("what was handed in is changed", keep)
	}
	keep[0] = false
	d.Start()
	asFirst()
	sure := d.Sure()
	sure[0].Bytes = append(sure[0].Bytes, 9, 9, 9, 9)
	if string(sure[1].Bytes) != "abc" {
		t.Error("two of one answer share what they have")
	}
	asFirst()
}

// wipe overwrites bytes, and the spare room behind them.
func wipe(b []byte) {
	b = b[:cap(b)]
	for i := range b {
		b[i] = '#'
	}
}
