package shelf_test

import (
	"fmt"
	"strconv"
	"strings"
	"testing"

	"holdfast/api"
	"holdfast/cell"
	"holdfast/disk"
	"holdfast/record"
	"holdfast/shelf"
	"holdfast/unit"
)

func long(n int) string { return strings.Repeat("x", n) }

// list is what a shelf's disk lists.
func (x *pair) list() string {
	names, _ := x.s.Disk().List()
	return strings.Join(names, " ")
}

// wantsUnit asks whether the unit is the one that these acts make.
func (x *pair) wantsUnit(acts ...record.Act) {
	x.t.Helper()
	if got, want := showUnit(x.s.Unit()), showUnit(unitOf(acts...)); got != want {
		x.t.Fatal(got, "want", want)
	}
}

// fuse lets n operations through on both disks.
func (x *pair) fuse(n int) {
	x.t.Helper()
	x.both(func(d *disk.Disk) { d.Fuse(n) })
}

// anew cuts, starts and opens both.
func (x *pair) anew(keep ...bool) {
	x.t.Helper()
	x.both(func(d *disk.Disk) { d.Cut(keep...) })
	x.both(func(d *disk.Disk) { d.Start() })
	x.wants(nil, x.open())
}

// The chapter's example.
func TestExample(t *testing.T) {
	d := fresh(t, 1000)
	s, err := shelf.Open(d)
	if err != nil {
		t.Fatal(err)
	}
	if _, err := s.Do(write(0, 3, "a")); err != nil {
		t.Fatal(err)
	}
	d.Cut()
	d.Start()
	if s, err = shelf.Open(d); err != nil {
		t.Fatal(err)
	}
	if c, err := s.Read(0, 3); c.Kind != cell.Data || string(c.Data) != "a" || err != nil {
		t.Error(c, err)
	}
}

// P10.1: Do.

func TestDo(t *testing.T) {
	d := fresh(t, 1000)
	s, err := shelf.Open(d)
	if err != nil {
		t.Fatal(err)
	}
	for i, c := range []struct {
		a    record.Act
		n    int
		want error
		then string
	}{
		{write(0, 4, "x"), 0, nil, `0 from 0: 4=data:"x"`},
		{write(0, 4, "x"), 0, api.ErrWritten, ""},
		{fill(0, 4), 0, api.ErrWritten, ""},
		{fill(0, 6), 0, nil, `0 from 0: 4=data:"x" 6=hole:""`},
		{fill(0, 6), 0, nil, `0 from 0: 4=data:"x" 6=hole:""`},
		{seal(0), 0, api.ErrSealed, ""},
		{seal(3), 7, nil, `3 from 0: 4=data:"x" 6=hole:""`},
		{write(2, 5, "y"), 0, api.ErrSealed, ""},
		{write(4, 5, "y"), 0, api.ErrEpoch, ""},
		{trim(3, 2), 0, nil, `3 from 2: 4=data:"x" 6=hole:""`},
		{write(3, 1, "y"), 0, api.ErrTrimmed, ""},
		{cut(3, 5), 1, nil, `3 from 2: 4=data:"x"`},
		{cut(3, 1), 0, api.ErrTrimmed, ""},
		{cut(3, 2), 1, nil, `3 from 2:`},
		{trim(3, 1<<20), 0, nil, `3 from 1048576:`},
		{record.Act{}, 0, api.ErrRange, ""},
		{record.Act{Kind: 9}, 0, api.ErrRange, ""},
		{write(3, 1<<20, ""), 0, api.ErrRange, ""},
		{write(3, 0, long(65)), 0, api.ErrLong, ""},
		{record.Act{Kind: record.Fill, Epoch: 3, Data: []byte("x")}, 0, api.ErrForm, ""},
	} {
		before, next := showUnit(s.Unit()), s.Next()
		if c.want == nil {
			next++
		} else {
			c.then = before
		}
		n, err := s.Do(c.a)
		if n != c.n || err != c.want || showUnit(s.Unit()) != c.then || s.Next() != next || s.Broken() {
			t.Errorf("%d: %d, %v, then %d %s", i, n, err, s.Next(), showUnit(s.Unit()))
		}
	}
}

// Each act is an object of its own, of the acts' numbers; one that can't be done isn't put.
func TestDoPutsObjects(t *testing.T) {
	x := begin(t, 1000, nil)
	acts := []record.Act{write(0, 1, "ab"), seal(2), fill(2, 0), trim(2, 1), cut(2, 1)}
	x.all(acts...)
	x.wants(api.ErrSealed, x.do(seal(1)))
	if got := x.list(); got != "r00000000 r00000001 r00000002 r00000003 r00000004" {
		t.Error(got)
	}
	for i, a := range acts {
		if b, err := x.s.Disk().Read("r0000000" + strconv.Itoa(i)); string(b) != string(actBytes(a)) || err != nil {
			t.Error(i, b, err)
		}
	}
	if n := x.s.Disk().Pending(); n != 0 {
		t.Error(n)
	}
	x.wants(nil, x.open())
	x.wantsUnit(acts...)
}

// An act that can't be done costs no operation, and its error goes ahead of the disk's.
func TestDoRefuses(t *testing.T) {
	x := begin(t, 1000, nil)
	x.all(write(0, 1, "a"), seal(1))
	wrong := map[error]record.Act{
		api.ErrWritten: write(1, 1, "b"),
		api.ErrSealed:  write(0, 2, "b"),
		api.ErrEpoch:   write(2, 2, "b"),
		api.ErrRange:   {},
		api.ErrLong:    write(1, 2, long(65)),
		api.ErrForm:    {Kind: record.Seal, Epoch: 2, Address: 1},
	}
	x.fuse(0)
	for want, a := range wrong {
		x.wants(want, x.do(a))
	}
	x.both(func(d *disk.Disk) { d.Cut() })
	for want, a := range wrong {
		x.wants(want, x.do(a))
	}
	if x.s.Broken() {
		t.Error("nothing was done to the disk")
	}
	x.both(func(d *disk.Disk) { d.Start() })
	x.all(write(1, 2, "b"))
}

// A disk that lost its power between two calls, and has it again, is as it was: all that was done is sure.
func TestCutBetweenCalls(t *testing.T) {
	x := begin(t, 1000, nil)
	x.all(write(0, 1, "a"))
	x.both(func(d *disk.Disk) { d.Cut() })
	if c, err := x.s.Read(0, 1); c.Kind != cell.Empty || c.Data != nil || err != api.ErrDown {
		t.Error(c, err)
	}
	if n, err := x.s.Tail(0); n != 0 || err != api.ErrDown || x.s.Broken() {
		t.Error(n, err)
	}
	// Without power nothing else is told, be the question wrong.
	if _, err := x.s.Read(7, -1); err != api.ErrDown {
		t.Error(err)
	}
	if _, err := x.s.Tail(7); err != api.ErrDown {
		t.Error(err)
	}
	x.both(func(d *disk.Disk) { d.Start() })
	if c, err := x.s.Read(0, 1); string(c.Data) != "a" || err != nil {
		t.Error(c, err)
	}
	if n, err := x.s.Tail(0); n != 2 || err != nil {
		t.Error(n, err)
	}
	x.all(write(0, 2, "b"))
	x.anew()
	x.wantsUnit(write(0, 1, "a"), write(0, 2, "b"))
}

// Of a Do there are four operations; where the power goes at one of them, the act isn't done, and the shelf does nothing more.
func TestDoAtEachFuse(t *testing.T) {
	for n := range 5 {
		x := begin(t, 1000, nil)
		x.all(write(0, 1, "a"))
		x.fuse(n)
		if n == 4 {
			x.all(seal(1))
			continue
		}
		x.wants(api.ErrDown, x.do(seal(1)))
		x.wantsUnit(write(0, 1, "a"))
		x.brokenFor(write(0, 2, "b"))
		x.both(func(d *disk.Disk) { d.Start() })
		x.brokenFor(write(0, 2, "b"))
		x.wants(nil, x.open())
		x.all(write(0, 2, "b"))
	}
}

// brokenFor asks for all that a broken shelf answers.
func (x *pair) brokenFor(a record.Act) {
	x.t.Helper()
	u, next := showUnit(x.s.Unit()), x.s.Next()
	x.wants(api.ErrDown, x.do(a))
	x.wants(api.ErrDown, x.do(record.Act{}))
	x.wants(api.ErrDown, x.do(seal(0)))
	x.wants(api.ErrDown, x.compact())
	_, err := x.s.Read(0, 1)
	x.wants(api.ErrDown, err)
	_, err = x.s.Read(9, -1)
	x.wants(api.ErrDown, err)
	_, err = x.s.Tail(0)
	x.wants(api.ErrDown, err)
	if !x.s.Broken() || showUnit(x.s.Unit()) != u || x.s.Next() != next || x.s.Disk() == nil {
		x.t.Error(x.s.Broken(), x.s.Next(), showUnit(x.s.Unit()))
	}
}

// P10.1: where there is no room the act isn't done, and the shelf goes on.

func TestDoAndTheRoom(t *testing.T) {
	size := len(actBytes(write(0, 0, "abc")))
	x := begin(t, 2*size, nil)
	x.all(write(0, 0, "abc"), write(0, 1, "abc"))
	x.wants(api.ErrFull, x.do(write(0, 2, "")))
	x.wants(api.ErrWritten, x.do(write(0, 1, "abc")))
	x.wantsUnit(write(0, 0, "abc"), write(0, 1, "abc"))
	x.wants(api.ErrFull, x.do(seal(1)))
	x.wants(api.ErrFull, x.compact())
	if x.s.Broken() || x.s.Epoch() != 0 || x.s.Next() != 2 {
		t.Error(x.s.Broken(), x.s.Epoch(), x.s.Next())
	}
	x.anew()
	x.wantsUnit(write(0, 0, "abc"), write(0, 1, "abc"))
	x.both(func(d *disk.Disk) { // room, of which the acts had none
		d.Remove("r00000001")
		d.Sync()
	})
	x.wants(nil, x.open())
	x.all(trim(0, 1))
}

func TestDoAndTheNumberOfFiles(t *testing.T) {
	x := begin(t, 100000, nil)
	x.all(write(0, 0, ""))
	files := map[string][]byte{}
	for i := range 509 {
		files["f"+strconv.Itoa(i)] = nil
	}
	x.both(func(d *disk.Disk) { lay(t, d, files) })
	x.all(write(0, 1, ""), seal(1))
	x.wants(api.ErrFull, x.do(write(1, 2, "")))
	x.wants(api.ErrFull, x.compact())
	x.wantsUnit(write(0, 0, ""), write(0, 1, ""), seal(1))
	x.both(func(d *disk.Disk) {
		d.Remove("f7")
		d.Sync()
	})
	x.wants(nil, x.compact())
	x.all(write(1, 2, ""))
}

// P10.1: the last number is 99999999.
func TestLastNumber(t *testing.T) {
	u := unitOf(write(0, 3, "c"))
	x := begin(t, 1000, map[string][]byte{"b99999998": unitBytes(u), "r100000000": []byte("none of ours")})
	x.all(write(0, 4, "d"), seal(1))
	if x.s.Next() != 100000000 || x.list() != "b99999998 r100000000 r99999998 r99999999" {
		t.Error(x.s.Next(), x.list())
	}
	for range 2 {
		x.fuse(0)
		x.wants(api.ErrFull, x.do(write(1, 5, "e")))
		x.wants(api.ErrFull, x.do(seal(2)))
		x.wants(api.ErrFull, x.compact())
		x.wants(api.ErrSealed, x.do(write(0, 5, "e")))
		x.wants(api.ErrRange, x.do(record.Act{}))
		if x.s.Next() != 100000000 || x.s.Broken() {
			t.Error(x.s.Next(), x.s.Broken())
		}
		x.anew()
		x.wantsUnit(write(0, 3, "c"), write(0, 4, "d"), seal(1))
	}
}

func TestCompactAtTheLastNumber(t *testing.T) {
	x := begin(t, 1000, map[string][]byte{"b99999999": unitBytes(unitOf(seal(1)))})
	x.wants(nil, x.compact())
	x.all(write(1, 0, "a"))
	x.wants(api.ErrFull, x.compact())
	if got := x.list(); got != "b99999999 r99999999" {
		t.Error(got)
	}
	// Where it is broken, that is told ahead of it.
	x = begin(t, 1000, map[string][]byte{"b99999998": unitBytes(unitOf(seal(1)))})
	x.all(write(1, 0, "a"))
	x.fuse(1)
	x.wants(api.ErrDown, x.do(write(1, 1, "b")))
	x.wants(api.ErrDown, x.compact())
}

// P10.1: Compact.

func TestCompact(t *testing.T) {
	x := begin(t, 1000, nil)
	x.wants(nil, x.compact())
	if got := x.list(); got != "b00000000" || x.s.Next() != 0 {
		t.Error(got, x.s.Next())
	}
	acts := []record.Act{write(0, 1, "ab"), seal(2), fill(2, 0)}
	x.all(acts...)
	x.wants(nil, x.compact())
	if b, err := x.s.Disk().Read("b00000003"); string(b) != string(unitBytes(unitOf(acts...))) || err != nil {
		t.Error(b, err)
	}
	if got := x.list(); got != "b00000003" || x.s.Next() != 3 || x.s.Disk().Pending() != 0 {
		t.Error(got, x.s.Next())
	}
	x.wants(nil, x.compact())
	x.all(trim(2, 1))
	if got := x.list(); got != "b00000003 r00000003" {
		t.Error(got)
	}
	x.anew()
	x.wantsUnit(append(acts, trim(2, 1))...)
	x.wants(nil, x.compact())
	x.anew()
	x.wantsUnit(append(acts, trim(2, 1))...)
	if got := x.list(); got != "b00000004" || x.s.Next() != 4 {
		t.Error(got, x.s.Next())
	}
}

// Of what isn't a base's or an act's name nothing is deleted; of what is, all is, be it never read.
func TestCompactDeletes(t *testing.T) {
	files := strangers()
	for _, name := range []string{"b00000001", "b00000002", "r00000000", "r00000001", "r00000099", "r99999999"} {
		files[name] = []byte("spoilt")
	}
	files["b00000005"] = unitBytes(unitOf(seal(4)))
	files["r00000005"] = actBytes(seal(7))
	x := begin(t, 1000, files)
	x.wants(nil, x.compact())
	left := strangers()
	left["b00000006"] = unitBytes(unitOf(seal(7)))
	names, _ := x.s.Disk().List()
	for _, name := range names {
		if b, _ := x.s.Disk().Read(name); left[name] == nil || string(b) != string(left[name]) {
			t.Errorf("%s: %q", name, b)
		}
	}
	if len(names) != len(left) {
		t.Error(names)
	}
}

// Where the power goes at an operation, the shelf is broken; behind a start all is there, and what is still to be deleted is no matter.
func TestCompactAtEachFuse(t *testing.T) {
	acts := []record.Act{write(0, 1, "ab"), seal(2), fill(2, 0)}
	for n := range 15 {
		// Of the operations four put the base; then a base, and four acts are deleted, by two each.
		x := begin(t, 1000, map[string][]byte{"b00000000": unitBytes(unit.New()), "r00000009": nil})
		x.all(acts...)
		x.fuse(n)
		if n == 14 {
			x.wants(nil, x.compact())
			if got := x.list(); got != "b00000003" {
				t.Error(got)
			}
			continue
		}
		x.wants(api.ErrDown, x.compact())
		x.brokenFor(write(2, 2, "b"))
		x.anew()
		x.wantsUnit(acts...)
		x.wants(nil, x.compact())
		if got := x.list(); got != "b00000003" || x.s.Next() != 3 {
			t.Error(n, got, x.s.Next())
		}
	}
}

// Without power, and broken only behind that.
func TestCompactWithoutPower(t *testing.T) {
	x := begin(t, 1000, nil)
	x.all(seal(1))
	x.both(func(d *disk.Disk) { d.Cut() })
	x.wants(api.ErrDown, x.compact())
	x.brokenFor(seal(2))
	x.anew()
	x.wantsUnit(seal(1))
}

// P10.1: a unit whose bytes are too many is refused by layer 9, ahead of the disk, or, where a few would do, by the disk: a file has fewer bytes than a frame may have.
func TestCompactOfAGreatUnit(t *testing.T) {
	u := unit.New()
	for address := range 977 {
		u.Write(0, address, []byte(long(64)))
	}
	for _, c := range []struct {
		acts []record.Act
		want error
		asks bool // whether the disk is asked
	}{
		{[]record.Act{write(0, 977, long(63))}, nil, true},
		{[]record.Act{write(0, 977, long(64))}, api.ErrLong, true},
		{[]record.Act{write(0, 977, long(64)), write(0, 978, long(3))}, api.ErrLong, true},
		{[]record.Act{write(0, 977, long(64)), write(0, 978, long(4))}, api.ErrLong, false},
	} {
		x := begin(t, 200000, map[string][]byte{"b00000000": unitBytes(u)})
		x.all(c.acts...)
		x.wants(c.want, x.compact())
		if c.want == nil {
			if b, err := x.s.Disk().Read("b00000001"); len(b) != api.MaxFile || err != nil {
				t.Error(len(b), err)
			}
			continue
		}
		if x.s.Broken() {
			t.Error("broken")
		}
		x.all(trim(0, 2)) // two cells less, and a file has room for it
		x.wants(nil, x.compact())
		x = begin(t, 200000, map[string][]byte{"b00000000": unitBytes(u)})
		x.all(c.acts...)
		x.fuse(0)
		if c.asks {
			c.want = api.ErrDown
		}
		x.wants(c.want, x.compact())
	}
}

// P10.1: nil.
func TestNil(t *testing.T) {
	if s, err := shelf.Open(nil); s != nil || err != api.ErrNone {
		t.Error(s, err)
	}
	var s *shelf.Shelf
	for _, a := range []record.Act{seal(1), {}, write(0, 0, long(65))} {
		if n, err := s.Do(a); n != 0 || err != api.ErrNone {
			t.Error(n, err)
		}
	}
	for _, address := range []int{-1, 0, 1 << 20} {
		if c, err := s.Read(0, address); c.Kind != 0 || c.Data != nil || err != api.ErrNone {
			t.Error(c, err)
		}
	}
	if n, err := s.Tail(0); n != 0 || err != api.ErrNone {
		t.Error(n, err)
	}
	if err := s.Compact(); err != api.ErrNone {
		t.Error(err)
	}
	if s.Unit() != nil || s.Epoch() != 0 || s.Next() != 0 || !s.Broken() || s.Disk() != nil {
		t.Error(s.Unit(), s.Epoch(), s.Next(), s.Broken(), s.Disk())
	}
}

// P10.1: what is handed in is neither changed nor kept, and what is answered isn't shared.
func TestMemory(t *testing.T) {
	x := begin(t, 1000, nil)
	text := []byte("spare room")
	a := record.Act{Kind: record.Write, Address: 1, Data: text[:5]}
	if _, err := x.s.Do(a); err != nil || string(text) != "spare room" {
		t.Fatal(err)
	}
	text[0] = '?'
	c, err := x.s.Read(0, 1)
	if string(c.Data) != "spare" || err != nil {
		t.Fatal(c, err)
	}
	c.Data[0] = '!'
	u := x.s.Unit()
	if err := u.Write(0, 2, nil); err != nil {
		t.Fatal(err)
	}
	u.Seal(5)
	if got := showUnit(x.s.Unit()); got != `0 from 0: 1=data:"spare"` {
		t.Error(got)
	}
	// One that was told stays as it was.
	u = x.s.Unit()
	if _, err := x.s.Do(trim(0, 2)); err != nil || showUnit(u) != `0 from 0: 1=data:"spare"` {
		t.Error(err, showUnit(u))
	}
}

func ExampleShelf_Do() {
	d, _ := disk.New(1000)
	s, _ := shelf.Open(d)
	s.Do(record.Act{Kind: record.Write, Address: 3, Data: []byte("a")})
	d.Cut()
	d.Start()
	s, err := shelf.Open(d)
	c, _ := s.Read(0, 3)
	fmt.Println(string(c.Data), s.Next(), err)
	// Output: a 1 <nil>
}
