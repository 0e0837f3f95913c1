package cell_test

import (
	"bytes"
	"encoding/binary"
	"errors"
	"fmt"
	"math"
	"math/rand"
	"slices"
	"testing"

	"holdfast/api"
	"holdfast/cell"
	"holdfast/varint"
)

func data(s string) cell.Cell { return cell.Cell{Kind: cell.Data, Data: []byte(s)} }

func of(kind int) cell.Cell { return cell.Cell{Kind: kind} }

// long is n bytes, of which no two neighbours are the same.
func long(n int) string {
	b := make([]byte, n)
	for i := range b {
		b[i] = byte(i)
	}
	return string(b)
}

// right is cells, no two of them the same.
func right() []cell.Cell {
	return []cell.Cell{
		of(cell.Empty), of(cell.Hole), of(cell.Trimmed),
		data(""), data("a"), data("b"), data("ab"), data("\x00"), data(long(63)), data(long(64)),
	}
}

type fault struct {
	c    cell.Cell
	want error
}

// wrong is what isn't a cell, and what is said of it.
func wrong() []fault {
	list := []fault{
		{cell.Cell{Kind: cell.Data, Data: make([]byte, 65)}, api.ErrLong},
		{cell.Cell{Kind: cell.Data, Data: make([]byte, 1000)}, api.ErrLong},
	}
	for _, kind := range []int{cell.Empty, cell.Hole, cell.Trimmed} {
		list = append(list,
			fault{cell.Cell{Kind: kind, Data: make([]byte, 1)}, api.ErrForm},
			fault{cell.Cell{Kind: kind, Data: make([]byte, 64)}, api.ErrForm},
			fault{cell.Cell{Kind: kind, Data: make([]byte, 65)}, api.ErrLong},
			fault{cell.Cell{Kind: kind, Data: make([]byte, 1000)}, api.ErrLong},
		)
	}
	for _, kind := range []int{-1, 4, 5, 256, 257, 1 << 32, 1<<32 + 1, math.MinInt, math.MinInt + 1, math.MaxInt} {
		for _, many := range []int{0, 1, 64, 65} {
			list = append(list, fault{cell.Cell{Kind: kind, Data: make([]byte, many)}, api.ErrRange})
		}
	}
	return list
}

// show is a cell as it is, and not only as it is meant: an empty list is none.
func show(c cell.Cell) string { return fmt.Sprintf("%d:%q", c.Kind, c.Data) }

// equal is whether two are the same, without asking the package.
func equal(a, b cell.Cell) bool { return show(a) == show(b) }

// meant is a cell's bytes, told once more by the library.
func meant(c cell.Cell) []byte {
	if c.Kind != 1 {
		return []byte{byte(c.Kind)}
	}
	return append(binary.AppendUvarint([]byte{1}, uint64(len(c.Data))), c.Data...)
}

func TestKinds(t *testing.T) {
	if cell.Empty != 0 || cell.Data != 1 || cell.Hole != 2 || cell.Trimmed != 3 {
		t.Error(cell.Empty, cell.Data, cell.Hole, cell.Trimmed)
	}
}

// P5.1: Check.

func TestCheck(t *testing.T) {
	for _, c := range right() {
		if err := cell.Check(c); err != nil {
			t.Errorf("%s: %v", show(c), err)
		}
	}
	// A list of no bytes is none, whatever the kind.
	for kind := range 4 {
		if err := cell.Check(cell.Cell{Kind: kind, Data: []byte{}}); err != nil {
			t.Error(kind, err)
		}
	}
	for _, c := range wrong() {
		if err := cell.Check(c.c); err != c.want {
			t.Errorf("%s: %v, want %v", show(c.c), err, c.want)
		}
	}
}

// P5.1: Same.

func TestSame(t *testing.T) {
	for i, a := range right() {
		for j, b := range right() {
			if got := cell.Same(a, b); got != (i == j) {
				t.Errorf("Same(%s, %s) = %v", show(a), show(b), got)
			}
		}
	}
	for kind := range 4 {
		if !cell.Same(cell.Cell{Kind: kind, Data: []byte{}}, of(kind)) || !cell.Same(of(kind), cell.Cell{Kind: kind, Data: []byte{}}) {
			t.Error("no bytes aren't no bytes", kind)
		}
	}
	// Whether both are cells at all is not asked.
	for _, c := range wrong() {
		if !cell.Same(c.c, cell.Cell{Kind: c.c.Kind, Data: bytes.Clone(c.c.Data)}) {
			t.Errorf("%s isn't itself", show(c.c))
		}
		if cell.Same(c.c, cell.Cell{Kind: c.c.Kind ^ 1, Data: c.c.Data}) || cell.Same(c.c, cell.Cell{Kind: c.c.Kind, Data: append([]byte{1}, c.c.Data...)}) {
			t.Errorf("%s is another one", show(c.c))
		}
	}
}

// P5.1: May.

// may is what the chapter tells, kind by kind.
func may(a, b cell.Cell) bool {
	switch a.Kind {
	case 0:
		return true
	case 1:
		return b.Kind == 3 || b.Kind == 1 && bytes.Equal(a.Data, b.Data)
	case 2:
		return b.Kind == 3 || b.Kind == 2
	}
	return b.Kind == 3
}

func TestMay(t *testing.T) {
	for _, c := range []struct {
		a, b cell.Cell
		want bool
	}{
		{of(cell.Empty), of(cell.Empty), true},
		{of(cell.Empty), data(""), true},
		{of(cell.Empty), data("a"), true},
		{of(cell.Empty), of(cell.Hole), true},
		{of(cell.Empty), of(cell.Trimmed), true},
		{data("a"), of(cell.Empty), false},
		{data("a"), data("a"), true},
		{data("a"), data("b"), false},
		{data("a"), data("ab"), false},
		{data("ab"), data("a"), false},
		{data("a"), data(""), false},
		{data(""), data("a"), false},
		{data(""), cell.Cell{Kind: cell.Data, Data: []byte{}}, true},
		{data("a"), of(cell.Hole), false},
		{data("a"), of(cell.Trimmed), true},
		{of(cell.Hole), of(cell.Empty), false},
		{of(cell.Hole), data(""), false},
		{of(cell.Hole), of(cell.Hole), true},
		{of(cell.Hole), of(cell.Trimmed), true},
		{of(cell.Trimmed), of(cell.Empty), false},
		{of(cell.Trimmed), data(""), false},
		{of(cell.Trimmed), of(cell.Hole), false},
		{of(cell.Trimmed), of(cell.Trimmed), true},
	} {
		if got := cell.May(c.a, c.b); got != c.want {
			t.Errorf("May(%s, %s) = %v", show(c.a), show(c.b), got)
		}
	}
	for _, a := range right() {
		for _, b := range right() {
			if got := cell.May(a, b); got != may(a, b) {
				t.Errorf("May(%s, %s) = %v", show(a), show(b), got)
			}
		}
	}
}

func TestMayOfWhatIsNoCell(t *testing.T) {
	for _, c := range wrong() {
		if cell.May(c.c, c.c) {
			t.Errorf("%s may become itself", show(c.c))
		}
		for _, other := range right() {
			if cell.May(c.c, other) || cell.May(other, c.c) {
				t.Errorf("%s and %s", show(c.c), show(other))
			}
		}
	}
}

// P5.1: Later.

func TestLater(t *testing.T) {
	for _, a := range right() {
		for _, b := range right() {
			got, ok := cell.Later(a, b)
			want, wantOk := cell.Cell{}, false
			if may(a, b) {
				want, wantOk = b, true
			} else if may(b, a) {
				want, wantOk = a, true
			}
			if !equal(got, want) || ok != wantOk {
				t.Errorf("Later(%s, %s) = %s, %v, want %s, %v", show(a), show(b), show(got), ok, show(want), wantOk)
			}
		}
	}
	for _, c := range wrong() {
		for _, other := range append(right(), c.c) {
			for _, pair := range [][2]cell.Cell{{c.c, other}, {other, c.c}} {
				if got, ok := cell.Later(pair[0], pair[1]); !equal(got, cell.Cell{}) || ok {
					t.Errorf("Later(%s, %s) = %s, %v", show(pair[0]), show(pair[1]), show(got), ok)
				}
			}
		}
	}
}

// P5.1: Put.

func TestPut(t *testing.T) {
	for _, c := range []struct {
		c    cell.Cell
		want string
	}{
		{of(cell.Empty), "\x00"},
		{of(cell.Hole), "\x02"},
		{of(cell.Trimmed), "\x03"},
		{cell.Cell{Kind: cell.Hole, Data: []byte{}}, "\x02"},
		{data(""), "\x01\x00"},
		{cell.Cell{Kind: cell.Data, Data: []byte{}}, "\x01\x00"},
		{data("ab"), "\x01\x02ab"},
		{data(long(64)), "\x01\x40" + long(64)},
	} {
		for _, b := range []string{"", "xy", long(300)} {
			got, err := cell.Put([]byte(b), c.c)
			if string(got) != b+c.want || err != nil {
				t.Errorf("Put(%q, %s) = %q, %v", b, show(c.c), got, err)
			}
		}
		if got, err := cell.Put(nil, c.c); string(got) != c.want || err != nil {
			t.Errorf("Put(nil, %s) = %q, %v", show(c.c), got, err)
		}
	}
	for _, c := range wrong() {
		for _, b := range [][]byte{nil, {1, 2}} {
			if got, err := cell.Put(b, c.c); len(got) != 0 || err != c.want {
				t.Errorf("Put(%v, %s) = %v, %v, want %v", b, show(c.c), got, err, c.want)
			}
		}
	}
}

// P5.1: Take.

// plain is Take as the chapter tells it, told once more: the cell, its size, and the error.
func plain(b []byte) (cell.Cell, int, error) {
	kind, head, err := plainNumber(b)
	if err != nil {
		return cell.Cell{}, 0, err
	}
	if kind > 3 {
		return cell.Cell{}, 0, api.ErrRange
	}
	if kind != 1 {
		return of(int(kind)), head, nil
	}
	many, more, err := plainNumber(b[head:])
	if err != nil {
		return cell.Cell{}, 0, err
	}
	if many > 64 {
		return cell.Cell{}, 0, api.ErrLong
	}
	head += more
	if len(b)-head < int(many) {
		return cell.Cell{}, 0, api.ErrForm
	}
	return data(string(b[head : head+int(many)])), head + int(many), nil
}

// plainNumber is layer 1's Take by the library.
func plainNumber(b []byte) (uint64, int, error) {
	n, size := binary.Uvarint(b)
	if size <= 0 || !bytes.Equal(binary.AppendUvarint(nil, n), b[:size]) {
		return 0, 0, api.ErrForm
	}
	return n, size, nil
}

// takes asks for a Take of bytes, and holds it against what is meant.
func takes(t *testing.T, b []byte, want cell.Cell, size int, wantErr error) {
	t.Helper()
	r := varint.New(b)
	got := cell.Take(r)
	left := 0
	if wantErr == nil {
		left = len(b) - size
	}
	if !equal(got, want) || r.Err() != wantErr || r.Left() != left {
		t.Fatalf("Take of %v: %s, %v, %d left, want %s, %v, %d", b, show(got), r.Err(), r.Left(), show(want), wantErr, left)
	}
}

func TestTake(t *testing.T) {
	for _, c := range right() {
		for _, more := range []string{"", "\x00", "\xff\xff", "\x01\x02ab"} {
			b := meant(c)
			takes(t, append(bytes.Clone(b), more...), c, len(b), nil)
		}
	}
	r := varint.New([]byte("\x02\x01\x02ab\x00\x03\x01\x00"))
	for _, want := range []cell.Cell{of(cell.Hole), data("ab"), of(cell.Empty), of(cell.Trimmed), data("")} {
		if got := cell.Take(r); !equal(got, want) || r.Err() != nil {
			t.Errorf("%s, %v, want %s", show(got), r.Err(), show(want))
		}
	}
	if r.End() != nil {
		t.Error(r.End())
	}
}

func TestTakeRefuses(t *testing.T) {
	number := func(n uint64) string { return string(binary.AppendUvarint(nil, n)) }
	for _, c := range []struct {
		b    string
		want error
	}{
		{"", api.ErrForm},
		{"\x80", api.ErrForm},
		{"\x80\x00", api.ErrForm},
		{"\x82\x00", api.ErrForm},
		{"\x81\x00\x01a", api.ErrForm},
		{"\x04", api.ErrRange},
		{"\x04\x01a", api.ErrRange},
		{number(257) + "\x01a", api.ErrRange},
		{number(1<<32+1) + "\x01a", api.ErrRange},
		{number(1<<62+1) + "\x01a", api.ErrRange},
		{number(math.MaxUint64) + "\x01a", api.ErrRange},
		{"\x01", api.ErrForm},
		{"\x01\x80", api.ErrForm},
		{"\x01\x81\x00a", api.ErrForm},
		{"\x01\x01", api.ErrForm},
		{"\x01\x03ab", api.ErrForm},
		{"\x01\x40" + long(63), api.ErrForm},
		{"\x01\x41", api.ErrLong},
		{"\x01\x41" + long(65), api.ErrLong},
		{"\x01" + number(1<<32+1) + "a", api.ErrLong},
		{"\x01" + number(1<<63) + "a", api.ErrLong},
		{"\x01" + number(math.MaxUint64) + "a", api.ErrLong},
	} {
		takes(t, []byte(c.b), cell.Cell{}, 0, c.want)
	}
}

func TestTakeOfAReaderThatHasAnError(t *testing.T) {
	own := errors.New("own")
	for _, c := range right() {
		r := varint.New(meant(c))
		r.Fail(own)
		if got := cell.Take(r); !equal(got, cell.Cell{}) || r.Err() != own {
			t.Errorf("%s, %v", show(got), r.Err())
		}
	}
	var none *varint.Reader
	if got := cell.Take(none); !equal(got, cell.Cell{}) {
		t.Error(show(got))
	}
}

func TestTakingFromAnyBytes(t *testing.T) {
	r := rand.New(rand.NewSource(1))
	for range 50000 {
		b := make([]byte, r.Intn(80))
		for i := range b {
			b[i] = byte(r.Intn(256) >> r.Intn(9))
		}
		want, size, err := plain(b)
		takes(t, b, want, size, err)
	}
}

// P5.1: Word, Copy.

func TestWord(t *testing.T) {
	for kind, want := range []string{"empty", "data", "hole", "trimmed"} {
		if got := cell.Word(kind); got != want {
			t.Errorf("%d: %q", kind, got)
		}
	}
	for _, kind := range []int{-1, 4, 5, 256, 1 << 32, math.MinInt, math.MaxInt} {
		if got := cell.Word(kind); got != "" {
			t.Errorf("%d: %q", kind, got)
		}
	}
}

func TestCopy(t *testing.T) {
	list := right()
	for _, c := range wrong() {
		list = append(list, c.c)
	}
	for _, c := range list {
		want := show(c)
		got := cell.Copy(c)
		if show(got) != want {
			t.Errorf("%s, want %s", show(got), want)
		}
		wipe(got.Data)
		if show(c) != want {
			t.Errorf("the copy shares what it has with %s", want)
		}
	}
}

// P5.2: what is put is taken as it was, and each row of bytes is one cell at most.

func TestWhatIsPutIsTaken(t *testing.T) {
	var b []byte
	for _, c := range right() {
		more, err := cell.Put(b, c)
		if err != nil {
			t.Fatal(err)
		}
		b = more
	}
	r := varint.New(b)
	for _, want := range right() {
		if got := cell.Take(r); !equal(got, want) {
			t.Errorf("%s, want %s", show(got), show(want))
		}
	}
	if r.End() != nil {
		t.Error(r.End())
	}
}

func TestEachRowOfBytesIsOneCell(t *testing.T) {
	for _, b := range rows([]byte{0, 1, 2, 3, 4, 128, 129, 255}, 4) {
		r := varint.New(b)
		c := cell.Take(r)
		if r.End() != nil {
			continue
		}
		if put, err := cell.Put(nil, c); !bytes.Equal(put, b) || err != nil {
			t.Errorf("%v is %s, whose bytes are %v, %v", b, show(c), put, err)
		}
	}
}

// rows is all rows of these bytes up to a length.
func rows(letters []byte, longest int) [][]byte {
	all, from := [][]byte{nil}, 0
	for range longest {
		till := len(all)
		for _, head := range all[from:till] {
			for _, one := range letters {
				all = append(all, append(bytes.Clone(head), one))
			}
		}
		from = till
	}
	return all
}

// P5.2: May is an order.

func TestMayIsAnOrder(t *testing.T) {
	for _, a := range right() {
		if !cell.May(a, a) {
			t.Errorf("%s may not become itself", show(a))
		}
		for _, b := range right() {
			if cell.May(a, b) && cell.May(b, a) && !cell.Same(a, b) {
				t.Errorf("%s and %s may become one another", show(a), show(b))
			}
			for _, c := range right() {
				if cell.May(a, b) && cell.May(b, c) && !cell.May(a, c) {
					t.Errorf("%s may become %s, that one %s", show(a), show(b), show(c))
				}
			}
		}
	}
}

// Nothing that is handed in is changed or kept; each answer is new memory.

// wipe overwrites an answer, and the spare room behind it.
func wipe(b []byte) {
	for i := range b[:cap(b)] {
		b[:cap(b)][i] = 'W'
	}
}

func TestArgumentsStayAsTheyAre(t *testing.T) {
	room := []byte("ab, spare room, and more of it")
	was := bytes.Clone(room)
	a, b := cell.Cell{Kind: cell.Data, Data: room[:2]}, cell.Cell{Kind: cell.Data, Data: room[4:9]}
	for _, c := range []cell.Cell{a, b, of(cell.Hole), {Kind: cell.Hole, Data: room[:1]}} {
		cell.Check(c)
		cell.Same(a, c)
		cell.May(a, c)
		cell.Later(c, a)
		cell.Copy(c)
		cell.Put(room[:3], c)
		cell.Put(room[:0], c)
		cell.PutRun(room[:3], []cell.Cell{a, b, c})
		cell.PutRun(room[:0], []cell.Cell{c, b, a})
	}
	if !bytes.Equal(room, was) {
		t.Errorf("%q", room)
	}
}

func TestAnswersShareNothing(t *testing.T) {
	room, own := make([]byte, 2, 100), []byte("own")
	c := cell.Cell{Kind: cell.Data, Data: own[:2]}
	put, _ := cell.Put(room, c)
	again, _ := cell.Put(room, c)
	later, _ := cell.Later(of(cell.Empty), c)
	elder, _ := cell.Later(c, of(cell.Empty))
	alone, _ := cell.Later(c, c)
	for _, one := range [][]byte{again, room, own} {
		wipe(one)
	}
	if want := []byte("\x00\x00\x01\x02ow"); !bytes.Equal(put, want) {
		t.Errorf("%q", put)
	}
	for i, one := range []cell.Cell{later, elder, alone} {
		if !equal(one, data("ow")) {
			t.Errorf("%d: %s", i, show(one))
		}
		wipe(one.Data)
	}
	wipe(put)
	if string(own) != "WWW" || slices.ContainsFunc(room, func(b byte) bool { return b != 'W' }) {
		t.Errorf("%q, %q", own, room)
	}
}

func TestWhatIsTakenSharesNothing(t *testing.T) {
	b := []byte("\x01\x02ab\x01\x02cd")
	r := varint.New(b)
	first := cell.Take(r)
	wipe(first.Data)
	if string(b) != "\x01\x02ab\x01\x02cd" {
		t.Errorf("%q", b)
	}
	second := cell.Take(r)
	wipe(b)
	if !equal(second, data("cd")) {
		t.Error(show(second))
	}
}
