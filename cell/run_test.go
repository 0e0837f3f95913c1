package cell_test

import (
	"bytes"
	"encoding/binary"
	"errors"
	"math"
	"math/rand"
	"slices"
	"strings"
	"testing"

	"holdfast/api"
	"holdfast/cell"
	"holdfast/varint"
)

// many is a run of so many cells of one kind.
func many(n, kind int) []cell.Cell { return slices.Repeat([]cell.Cell{of(kind)}, n) }

func equalRuns(a, b []cell.Cell) bool { return slices.EqualFunc(a, b, equal) }

func showRun(run []cell.Cell) string {
	var all []string
	for _, c := range run {
		all = append(all, show(c))
	}
	return "[" + strings.Join(all, " ") + "]"
}

// meantRun is a run's bytes, told once more: cell by cell, a row's number counted up as it grows.
func meantRun(run []cell.Cell) []byte {
	b := []byte{byte(len(run))}
	last, row := "", -1
	for i, c := range run {
		if c.Kind != 1 && i > 0 && run[i-1].Kind == c.Kind {
			b[row]++
			continue
		}
		row = len(b)
		if c.Kind != 1 {
			b = append(b, 1, byte(c.Kind))
			continue
		}
		now, alike := string(c.Data), 0
		for k := 1; k <= len(now); k++ {
			if strings.HasPrefix(last, now[:k]) {
				alike = k
			}
		}
		b = append(append(b, 0, byte(len(now)), byte(alike)), now[alike:]...)
		last = now
	}
	return b
}

// plainRun is TakeRun as the chapter tells it, told once more: the run, its size, and the error.
func plainRun(b []byte) (run []cell.Cell, size int, err error) {
	var fault error
	// number takes a number, unless there was an error; wrong is the error of one above most.
	number := func(most int, wrong error) int {
		if fault != nil {
			return 0
		}
		n, more, err := plainNumber(b[size:])
		if err == nil && n > uint64(most) {
			err = wrong
		}
		if err != nil {
			fault = err
			return 0
		}
		size += more
		return int(n)
	}
	form := func(bad bool) {
		if fault == nil && bad {
			fault = api.ErrForm
		}
	}
	total := number(64, api.ErrLong)
	last, ahead := "", 1
	for fault == nil && len(run) < total {
		if row := number(total-len(run), api.ErrForm); row > 0 {
			kind := number(3, api.ErrRange)
			form(kind == 1 || kind == ahead)
			run = append(run, many(row, kind)...)
			ahead = kind
			continue
		}
		whole := number(64, api.ErrLong)
		alike := number(math.MaxInt, api.ErrForm)
		form(alike > whole || alike > len(last))
		form(fault == nil && len(b)-size < whole-alike)
		if fault != nil {
			break
		}
		now := last[:alike] + string(b[size:size+whole-alike])
		size += whole - alike
		form(alike < whole && strings.HasPrefix(last, now[:alike+1]))
		run = append(run, data(now))
		last, ahead = now, 1
	}
	if fault != nil {
		return nil, 0, fault
	}
	return run, size, nil
}

// P5.1: PutRun.

type example struct {
	run  []cell.Cell
	want string
}

func examples() []example {
	long63, long64 := long(63), long(64)
	zs := strings.Repeat("z", 64)
	return []example{
		{nil, "\x00"},
		{[]cell.Cell{of(cell.Empty)}, "\x01\x01\x00"},
		{[]cell.Cell{of(cell.Hole)}, "\x01\x01\x02"},
		{[]cell.Cell{of(cell.Trimmed)}, "\x01\x01\x03"},
		{[]cell.Cell{data("")}, "\x01\x00\x00\x00"},
		{[]cell.Cell{data("ab")}, "\x01\x00\x02\x00ab"},
		{[]cell.Cell{data(long64)}, "\x01\x00\x40\x00" + long64},
		{many(2, cell.Hole), "\x02\x02\x02"},
		{many(64, cell.Empty), "\x40\x40\x00"},
		{many(64, cell.Hole), "\x40\x40\x02"},
		{many(64, cell.Trimmed), "\x40\x40\x03"},
		{append(many(63, cell.Hole), of(cell.Trimmed)), "\x40\x3f\x02\x01\x03"},
		{[]cell.Cell{of(cell.Trimmed), of(cell.Hole), of(cell.Empty), of(cell.Hole)}, "\x04\x01\x03\x01\x02\x01\x00\x01\x02"},
		{[]cell.Cell{of(cell.Hole), data("a"), of(cell.Hole)}, "\x03\x01\x02\x00\x01\x00a\x01\x02"},
		// What is alike with the last data cell isn't told again.
		{[]cell.Cell{data("ab"), data("ab")}, "\x02\x00\x02\x00ab\x00\x02\x02"},
		{[]cell.Cell{data("ab"), data("abc")}, "\x02\x00\x02\x00ab\x00\x03\x02c"},
		{[]cell.Cell{data("abc"), data("ab")}, "\x02\x00\x03\x00abc\x00\x02\x02"},
		{[]cell.Cell{data("abc"), data("abd")}, "\x02\x00\x03\x00abc\x00\x03\x02d"},
		{[]cell.Cell{data("abc"), data("xbc")}, "\x02\x00\x03\x00abc\x00\x03\x00xbc"},
		{[]cell.Cell{data("abc"), data("axc")}, "\x02\x00\x03\x00abc\x00\x03\x01xc"},
		{[]cell.Cell{data("ab"), data("")}, "\x02\x00\x02\x00ab\x00\x00\x00"},
		{[]cell.Cell{data(""), data("ab")}, "\x02\x00\x00\x00\x00\x02\x00ab"},
		{[]cell.Cell{data(""), data("")}, "\x02\x00\x00\x00\x00\x00\x00"},
		{[]cell.Cell{data("aaaa"), data("aa"), data("aaaa")}, "\x03\x00\x04\x00aaaa\x00\x02\x02\x00\x04\x02aa"},
		{[]cell.Cell{data("\x00"), data("\x00\x00")}, "\x02\x00\x01\x00\x00\x00\x02\x01\x00"},
		{[]cell.Cell{data(long63), data(long64)}, "\x02\x00\x3f\x00" + long63 + "\x00\x40\x3f\x3f"},
		{[]cell.Cell{data(long64), data(long64)}, "\x02\x00\x40\x00" + long64 + "\x00\x40\x40"},
		// The last data cell is the last one, and however far ahead.
		{[]cell.Cell{data("ab"), of(cell.Hole), of(cell.Hole), of(cell.Empty), data("ac")}, "\x05\x00\x02\x00ab\x02\x02\x01\x00\x00\x02\x01c"},
		{[]cell.Cell{data("ab"), data("x"), data("ab")}, "\x03\x00\x02\x00ab\x00\x01\x00x\x00\x02\x00ab"},
		{[]cell.Cell{data("ab"), data(""), data("ab")}, "\x03\x00\x02\x00ab\x00\x00\x00\x00\x02\x00ab"},
		{[]cell.Cell{of(cell.Empty), data("a"), of(cell.Empty), data("a"), of(cell.Empty)}, "\x05\x01\x00\x00\x01\x00a\x01\x00\x00\x01\x01\x01\x00"},
		{slices.Repeat([]cell.Cell{data(zs)}, 64), "\x40\x00\x40\x00" + zs + strings.Repeat("\x00\x40\x40", 63)},
	}
}

func TestPutRun(t *testing.T) {
	for _, c := range examples() {
		for _, b := range []string{"", "xy", long(300)} {
			got, err := cell.PutRun([]byte(b), c.run)
			if string(got) != b+c.want || err != nil {
				t.Errorf("PutRun(%q, %s) = %q, %v, want %q", b, showRun(c.run), got, err, b+c.want)
			}
		}
	}
	if got, err := cell.PutRun(nil, []cell.Cell{}); string(got) != "\x00" || err != nil {
		t.Errorf("%q, %v", got, err)
	}
	// A list of no bytes is none.
	none := []cell.Cell{{Kind: cell.Hole, Data: []byte{}}, of(cell.Hole), {Kind: cell.Data, Data: []byte{}}}
	if got, err := cell.PutRun(nil, none); string(got) != "\x03\x02\x02\x00\x00\x00" || err != nil {
		t.Errorf("%q, %v", got, err)
	}
}

func TestPutRunRefuses(t *testing.T) {
	refused := func(run []cell.Cell, want error) {
		t.Helper()
		for _, b := range [][]byte{nil, {1, 2}} {
			if got, err := cell.PutRun(b, run); len(got) != 0 || err != want {
				t.Errorf("PutRun(%v, %d cells) = %v, %v, want %v", b, len(run), got, err, want)
			}
		}
	}
	refused(many(65, cell.Hole), api.ErrLong)
	refused(many(1000, cell.Empty), api.ErrLong)
	refused(slices.Repeat([]cell.Cell{data("a")}, 65), api.ErrLong)
	for _, c := range wrong() {
		refused([]cell.Cell{c.c}, c.want)
		refused([]cell.Cell{data("a"), of(cell.Hole), of(cell.Hole), c.c}, c.want)
		refused([]cell.Cell{of(cell.Trimmed), c.c, data("a")}, c.want)
		refused(append(many(63, cell.Hole), c.c), c.want)
		// How many there are goes ahead of what they are.
		refused(append(many(64, cell.Hole), c.c), api.ErrLong)
		refused(append([]cell.Cell{c.c}, many(64, cell.Hole)...), api.ErrLong)
		// Of several errors it is the first cell's.
		for _, other := range wrong() {
			refused([]cell.Cell{data("a"), c.c, other.c}, c.want)
		}
	}
}

// P5.1: TakeRun.

// takesRun asks for a TakeRun of bytes, and holds it against what is meant.
func takesRun(t *testing.T, b []byte, want []cell.Cell, size int, wantErr error) {
	t.Helper()
	r := varint.New(b)
	got := cell.TakeRun(r)
	left := 0
	if wantErr == nil {
		left = len(b) - size
	}
	if !equalRuns(got, want) || r.Err() != wantErr || r.Left() != left {
		t.Fatalf("TakeRun of %v: %s, %v, %d left, want %s, %v, %d", b, showRun(got), r.Err(), r.Left(), showRun(want), wantErr, left)
	}
}

func TestTakeRun(t *testing.T) {
	var all []byte
	for _, c := range examples() {
		for _, more := range []string{"", "\x00", "\xff\xff", "\x01\x02"} {
			takesRun(t, []byte(c.want+more), c.run, len(c.want), nil)
		}
		all = append(all, c.want...)
	}
	// One behind the other, no run knows of the one ahead.
	r := varint.New(all)
	for _, c := range examples() {
		if got := cell.TakeRun(r); !equalRuns(got, c.run) || r.Err() != nil {
			t.Errorf("%s, %v, want %s", showRun(got), r.Err(), showRun(c.run))
		}
	}
	if r.End() != nil {
		t.Error(r.End())
	}
}

func number(n uint64) string { return string(binary.AppendUvarint(nil, n)) }

type refusal struct {
	b    string
	want error
}

func refusals() []refusal {
	top := number(math.MaxUint64)
	long64 := long(64)
	return []refusal{
		{"", api.ErrForm},
		{"\x80", api.ErrForm},
		{"\x81\x00\x01\x02", api.ErrForm},
		{"\x41", api.ErrLong},
		{"\x41\x41\x02", api.ErrLong},
		{number(1<<32+1) + "\x01\x02", api.ErrLong},
		{number(1<<62+1) + "\x01\x02", api.ErrLong},
		{number(1<<63) + "\x01\x02", api.ErrLong},
		{top + "\x01\x02", api.ErrLong},

		// No item where one is told.
		{"\x01", api.ErrForm},
		{"\x02\x01\x02", api.ErrForm},
		{"\x40\x3f\x02", api.ErrForm},
		{"\x01\x80", api.ErrForm},
		{"\x01\x80\x00\x00\x00", api.ErrForm},
		{"\x01\x81\x00\x02", api.ErrForm},

		// A row that is longer than what is left.
		{"\x01\x02\x02", api.ErrForm},
		{"\x01\x02\x04", api.ErrForm},
		{"\x01\x02", api.ErrForm},
		{"\x03\x02\x02\x02\x03", api.ErrForm},
		{"\x03\x02\x02\x02\x04", api.ErrForm},
		{"\x40\x41\x02", api.ErrForm},
		{"\x01" + number(1<<32+1) + "\x02", api.ErrForm},
		{"\x01" + number(1<<63) + "\x04", api.ErrForm},
		{"\x01" + top + "\x04", api.ErrForm},

		// A row's kind.
		{"\x01\x01", api.ErrForm},
		{"\x01\x01\x80", api.ErrForm},
		{"\x01\x01\x82\x00", api.ErrForm},
		{"\x01\x01\x04", api.ErrRange},
		{"\x01\x01" + number(256+2), api.ErrRange},
		{"\x01\x01" + number(1<<32+2), api.ErrRange},
		{"\x01\x01" + number(1<<63+2), api.ErrRange},
		{"\x01\x01" + top, api.ErrRange},
		{"\x03\x01\x02\x01\x04\x01\x05", api.ErrRange},
		{"\x01\x01\x01", api.ErrForm},
		{"\x01\x01\x01\x01a", api.ErrForm},
		{"\x02\x01\x02\x01\x02", api.ErrForm},
		{"\x02\x01\x00\x01\x00", api.ErrForm},
		{"\x02\x01\x03\x01\x03", api.ErrForm},
		{"\x03\x02\x03\x01\x03", api.ErrForm},
		{"\x04\x01\x02\x01\x03\x01\x03\x01\x02", api.ErrForm},
		{"\x03\x00\x01\x00a\x01\x02\x01\x02", api.ErrForm},

		// A data cell.
		{"\x01\x00", api.ErrForm},
		{"\x01\x00\x80", api.ErrForm},
		{"\x01\x00\x81\x00\x00a", api.ErrForm},
		{"\x01\x00\x41", api.ErrLong},
		{"\x01\x00\x41\x00" + long(65), api.ErrLong},
		{"\x01\x00\x41\x80\x00", api.ErrLong},
		{"\x02\x00\x40\x00" + long64 + "\x00\x41\x40a", api.ErrLong},
		{"\x01\x00" + number(1<<32+1) + "\x00a", api.ErrLong},
		{"\x01\x00" + number(1<<63) + "\x00a", api.ErrLong},
		{"\x01\x00" + top + top + "a", api.ErrLong},
		{"\x01\x00\x01", api.ErrForm},
		{"\x01\x00\x01\x80", api.ErrForm},
		{"\x01\x00\x01\x80\x00a", api.ErrForm},
		{"\x01\x00\x01\x01", api.ErrForm},                               // alike with none
		{"\x01\x00\x01\x01a", api.ErrForm},                              // alike with none
		{"\x01\x00\x00\x01", api.ErrForm},                               // of none, alike with none
		{"\x02\x00\x02\x00ab\x00\x01\x02", api.ErrForm},                 // more than it has
		{"\x02\x00\x02\x00ab\x00\x03\x03", api.ErrForm},                 // more than the last one
		{"\x02\x00\x02\x00ab\x00\x03\x03c", api.ErrForm},                // more than the last one
		{"\x02\x01\x02\x00\x02\x01b", api.ErrForm},                      // a row is no data cell
		{"\x03\x00\x02\x00ab\x00\x01\x00x\x00\x02\x02", api.ErrForm},    // the last one is x
		{"\x03\x00\x02\x00ab\x00\x00\x00\x00\x02\x01b", api.ErrForm},    // the last one has none
		{"\x01\x00\x01" + number(1<<32) + "a", api.ErrForm},             // far more
		{"\x01\x00\x01" + number(1<<63) + "a", api.ErrForm},             // far more
		{"\x01\x00\x01" + top + "a", api.ErrForm},                       // far more
		{"\x01\x00\x01\x00", api.ErrForm},                               // fewer are left
		{"\x01\x00\x03\x00ab", api.ErrForm},                             // fewer are left
		{"\x01\x00\x40\x00" + long(63), api.ErrForm},                    // fewer are left
		{"\x02\x00\x02\x00ab\x00\x04\x02c", api.ErrForm},                // fewer are left
		{"\x02\x00\x02\x00ab\x00\x02\x01b", api.ErrForm},                // one more is alike
		{"\x02\x00\x02\x00ab\x00\x03\x01bc", api.ErrForm},               // one more is alike
		{"\x02\x00\x02\x00ab\x00\x02\x00ax", api.ErrForm},               // one more is alike
		{"\x02\x00\x02\x00ab\x00\x01\x00a", api.ErrForm},                // one more is alike
		{"\x02\x00\x01\x00\x00\x00\x01\x00\x00", api.ErrForm},           // one more is alike: a nought
		{"\x03\x00\x02\x00ab\x01\x02\x00\x02\x01b", api.ErrForm},        // one more is alike, with a row between
		{"\x02\x00\x40\x00" + long64 + "\x00\x40\x3f\x3f", api.ErrForm}, // the last one is alike, too
		// Item by item: an error ahead is told, whatever stands behind it.
		{"\x03\x01\x01\x01\x04", api.ErrForm},
		{"\x03\x01\x04\x01\x01", api.ErrRange},
		{"\x03\x01\x04\x00\x41\x00", api.ErrRange},
		{"\x03\x00\x41\x00\x01\x04", api.ErrLong},
		{"\x03\x00\x01\x01a\x01\x04", api.ErrForm},
		{"\x03\x01\x02\x01\x02\x01\x04", api.ErrForm},
	}
}

func TestTakeRunRefuses(t *testing.T) {
	for _, c := range refusals() {
		takesRun(t, []byte(c.b), nil, 0, c.want)
		if _, _, err := plainRun([]byte(c.b)); err != c.want {
			t.Errorf("%q: what is told once more is told otherwise: %v, want %v", c.b, err, c.want)
		}
	}
}

func TestTakeRunOfAReaderThatHasAnError(t *testing.T) {
	own := errors.New("own")
	for _, c := range examples() {
		r := varint.New([]byte(c.want))
		r.Fail(own)
		if got := cell.TakeRun(r); len(got) != 0 || r.Err() != own {
			t.Errorf("%s, %v", showRun(got), r.Err())
		}
	}
	var none *varint.Reader
	if got := cell.TakeRun(none); len(got) != 0 {
		t.Error(showRun(got))
	}
}

// With an error the reader takes nothing more, and keeps it.
func TestAReaderKeepsARunsError(t *testing.T) {
	for _, c := range refusals() {
		r := varint.New([]byte(c.b))
		cell.TakeRun(r)
		if got := cell.TakeRun(r); len(got) != 0 || r.Err() != c.want {
			t.Errorf("%q: %s, %v", c.b, showRun(got), r.Err())
		}
		if got := cell.Take(r); !equal(got, cell.Cell{}) || r.Err() != c.want || r.End() != c.want {
			t.Errorf("%q: %s, %v", c.b, show(got), r.Err())
		}
	}
}

// P5.1: at all arguments.

// drawRun is a run whose neighbours are often alike.
func drawRun(r *rand.Rand, longest int) []cell.Cell {
	run := make([]cell.Cell, r.Intn(longest+1))
	kinds := 1 + r.Intn(6)
	last := ""
	for i := range run {
		kind := r.Intn(kinds) & 3
		if kind != 1 {
			run[i] = of(kind)
			continue
		}
		head := last[:r.Intn(len(last)+1)]
		tail := make([]byte, r.Intn(min(5, 64-len(head)+1)))
		for k := range tail {
			tail[k] = byte(r.Intn(3))
		}
		last = head + string(tail)
		run[i] = data(last)
	}
	return run
}

// spoil changes a few bytes.
func spoil(r *rand.Rand, b []byte) []byte {
	b = bytes.Clone(b)
	for range r.Intn(3) {
		switch at := r.Intn(len(b) + 1); r.Intn(4) {
		case 0:
			b = b[:at]
		case 1:
			b = slices.Insert(b, at, byte(r.Intn(256)>>r.Intn(9)))
		case 2:
			b = slices.Delete(b, at, min(at+1+r.Intn(3), len(b)))
		case 3:
			if at < len(b) {
				b[at] = byte(r.Intn(256) >> r.Intn(9))
			}
		}
	}
	return b
}

func TestTakingRunsFromAnyBytes(t *testing.T) {
	r := rand.New(rand.NewSource(2))
	good := 0
	for range 60000 {
		b := spoil(r, meantRun(drawRun(r, 10)))
		want, size, err := plainRun(b)
		takesRun(t, b, want, size, err)
		if err == nil {
			good++
		}
	}
	if good < 5000 || good > 55000 {
		t.Error("the draws are too good, or too bad:", good)
	}
}

func TestTakingRunsFromAllShortBytes(t *testing.T) {
	for _, b := range rows([]byte{0, 1, 2, 3, 4, 128}, 6) {
		want, size, err := plainRun(b)
		takesRun(t, b, want, size, err)
	}
}

func TestPuttingAnyRun(t *testing.T) {
	r := rand.New(rand.NewSource(3))
	for range 5000 {
		run := drawRun(r, 64)
		ahead := make([]byte, r.Intn(4))
		want := append(bytes.Clone(ahead), meantRun(run)...)
		if got, err := cell.PutRun(ahead, run); !bytes.Equal(got, want) || err != nil {
			t.Fatalf("PutRun(%v, %s) = %v, %v, want %v", ahead, showRun(run), got, err, want)
		}
	}
}

// P5.2: what is put is taken as it was.

func TestRunsThatArePutAreTaken(t *testing.T) {
	r := rand.New(rand.NewSource(4))
	for range 2000 {
		runs := make([][]cell.Cell, 1+r.Intn(3))
		var b []byte
		for i := range runs {
			runs[i] = drawRun(r, 64)
			more, err := cell.PutRun(b, runs[i])
			if err != nil {
				t.Fatal(err)
			}
			b = more
		}
		reader := varint.New(b)
		for _, run := range runs {
			if got := cell.TakeRun(reader); !equalRuns(got, run) {
				t.Fatalf("%s, want %s", showRun(got), showRun(run))
			}
		}
		if reader.End() != nil {
			t.Fatal(reader.End())
		}
	}
}

// P5.2: each row of bytes is one run at most.

// isOneRun asks whether bytes that are a run are that run's own.
func isOneRun(t *testing.T, b []byte) {
	t.Helper()
	r := varint.New(b)
	run := cell.TakeRun(r)
	if r.End() != nil {
		return
	}
	if put, err := cell.PutRun(nil, run); !bytes.Equal(put, b) || err != nil {
		t.Fatalf("%v is %s, whose bytes are %v, %v", b, showRun(run), put, err)
	}
}

func TestEachRowOfBytesIsOneRun(t *testing.T) {
	for _, b := range rows([]byte{0, 1, 2, 3, 129}, 7) {
		isOneRun(t, b)
	}
	r := rand.New(rand.NewSource(5))
	for range 60000 {
		isOneRun(t, spoil(r, meantRun(drawRun(r, 12))))
	}
}

func TestNoCutOfARunIsARun(t *testing.T) {
	for _, c := range examples() {
		for cut := range len(c.want) {
			takesRun(t, []byte(c.want[:cut]), nil, 0, api.ErrForm)
		}
	}
}

// Nothing that is handed in is changed or kept; each answer is new memory.

func TestARunStaysAsItIs(t *testing.T) {
	for _, c := range examples() {
		room := append(slices.Clone(c.run), data("spare"), of(cell.Hole))
		was := showRun(room)
		cell.PutRun(nil, room[:len(c.run)])
		if got := showRun(room); got != was {
			t.Errorf("%s, was %s", got, was)
		}
	}
}

func TestARunThatIsPutSharesNothing(t *testing.T) {
	b, text := make([]byte, 2, 100), []byte("text")
	run := []cell.Cell{{Kind: cell.Data, Data: text}}
	want := append(make([]byte, 2), meantRun(run)...)
	put, _ := cell.PutRun(b, run)
	again, _ := cell.PutRun(b, run)
	for _, one := range [][]byte{again, b, text} {
		wipe(one)
	}
	if !bytes.Equal(put, want) {
		t.Errorf("%q, want %q", put, want)
	}
	wipe(put)
	if string(text) != "WWWW" {
		t.Errorf("%q", text)
	}
}

func TestARunThatIsTakenSharesNothing(t *testing.T) {
	want := []cell.Cell{data("abc"), data("abc"), of(cell.Hole), data("ab"), data("abd"), data(""), data("x")}
	b := meantRun(want)
	was := bytes.Clone(b)
	r := varint.New(append(bytes.Clone(b), b...))
	run := cell.TakeRun(r)
	if len(run) != len(want) {
		t.Fatal(showRun(run))
	}
	for i, c := range run {
		if !equal(c, want[i]) {
			t.Errorf("cell %d is %s, want %s", i, show(c), show(want[i]))
		}
		wipe(c.Data)
	}
	clear(run[:cap(run)])
	if got := cell.TakeRun(r); !equalRuns(got, want) || r.End() != nil {
		t.Errorf("the second one: %s, %v", showRun(got), r.End())
	}
	kept := varint.New(b)
	first := cell.TakeRun(kept)
	if !bytes.Equal(b, was) {
		t.Errorf("%v, was %v", b, was)
	}
	wipe(b)
	if !equalRuns(first, want) {
		t.Error(showRun(first))
	}
}
