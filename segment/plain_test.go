package segment_test

import (
	"encoding/binary"
	"fmt"
	"hash/crc32"
	"math"
	"math/rand"
	"slices"
	"strings"

	"holdfast/api"
	"holdfast/cell"
	"holdfast/segment"
)

const (
	addresses = 1 << 20
	most      = 64    // cells of a segment, and bytes of a cell
	longest   = 65536 // bytes of a frame's text
)

var (
	empty   = cell.Cell{}
	hole    = cell.Cell{Kind: 2}
	trimmed = cell.Cell{Kind: 3}
)

func data(s string) cell.Cell { return cell.Cell{Kind: 1, Data: []byte(s)} }

// of is a segment.
func of(first int, cells ...cell.Cell) segment.Segment {
	return segment.Segment{First: first, Cells: cells}
}

// many is so many cells alike.
func many(n int, c cell.Cell) []cell.Cell { return slices.Repeat([]cell.Cell{c}, n) }

// long is n bytes, of which no two neighbours are the same.
func long(n int) string {
	b := make([]byte, n)
	for i := range b {
		b[i] = byte(i)
	}
	return string(b)
}

// full is 64 cells of 64 bytes, of which no two begin alike.
func full() []cell.Cell {
	var cells []cell.Cell
	for i := range most {
		cells = append(cells, data(string(rune('0'+i))+long(most-1)))
	}
	return cells
}

// showCell is a cell as it is meant: an empty list is none.
func showCell(c cell.Cell) string { return fmt.Sprintf("%d:%q", c.Kind, c.Data) }

// show is a segment as it is meant.
func show(s segment.Segment) string {
	cells := make([]string, len(s.Cells))
	for i, c := range s.Cells {
		cells[i] = showCell(c)
	}
	return fmt.Sprint(s.First, " ", cells)
}

// nothing is what stands beside an error.
var nothing = show(segment.Segment{})

// number is numbers' bytes by the library.
func number(list ...uint64) string {
	var b []byte
	for _, n := range list {
		b = binary.AppendUvarint(b, n)
	}
	return string(b)
}

// framed is a text's frame by the library.
func framed(text string) []byte {
	b := []byte(number(uint64(len(text))) + text)
	return binary.BigEndian.AppendUint32(b, crc32.Checksum(b, crc32.MakeTable(crc32.Castagnoli)))
}

// meantRun is a run's bytes, told once more: cell by cell, a row's number counted up as it grows.
func meantRun(run []cell.Cell) string {
	b := []byte{byte(len(run))}
	last, row := "", -1
	for i, c := range run {
		if c.Kind != 1 && i > 0 && run[i-1].Kind == c.Kind {
			b[row]++
			continue
		}
		row = len(b)
		if c.Kind != 1 {
			b = append(b, 1, byte(c.Kind))
			continue
		}
		now, alike := string(c.Data), 0
		for alike < len(now) && strings.HasPrefix(last, now[:alike+1]) {
			alike++
		}
		b = append(append(b, 0, byte(len(now)), byte(alike)), now[alike:]...)
		last = now
	}
	return string(b)
}

// meantText is the text of a segment's frame, told once more.
func meantText(s segment.Segment) string { return number(uint64(s.First)) + meantRun(s.Cells) }

// plainCell is layer 5's Check, told once more.
func plainCell(c cell.Cell) error {
	if c.Kind < 0 || c.Kind > 3 {
		return api.ErrRange
	}
	if len(c.Data) > most {
		return api.ErrLong
	}
	if len(c.Data) > 0 && c.Kind != 1 {
		return api.ErrForm
	}
	return nil
}

// plainCheck is Check as the chapter tells it, told once more: address by address.
func plainCheck(s segment.Segment) error {
	if s.First < 0 || s.First > addresses {
		return api.ErrRange
	}
	if len(s.Cells) > most {
		return api.ErrLong
	}
	for i := range s.Cells {
		if s.First+i >= addresses {
			return api.ErrRange
		}
	}
	for _, c := range s.Cells {
		if err := plainCell(c); err != nil {
			return err
		}
	}
	return nil
}

// row is what is left of bytes, and the first thing that was wrong with them.
type row struct {
	left string
	err  error
}

func (r *row) fail(bad bool, err error) {
	if bad && r.err == nil {
		r.err = err
	}
}

// number takes one; above is the error of one above top.
func (r *row) number(top int, above error) int {
	if r.err != nil {
		return 0
	}
	n, size := binary.Uvarint([]byte(r.left))
	if size <= 0 || number(n) != r.left[:size] {
		r.fail(true, api.ErrForm)
		return 0
	}
	r.left = r.left[size:]
	if n > uint64(top) {
		r.fail(true, above)
		return 0
	}
	return int(n)
}

func (r *row) fixed(many int) string {
	r.fail(many > len(r.left), api.ErrForm)
	if r.err != nil {
		return ""
	}
	text := r.left[:many]
	r.left = r.left[many:]
	return text
}

// run takes a run as layer 5 tells it, told once more.
func (r *row) run() []cell.Cell {
	var run []cell.Cell
	total := r.number(most, api.ErrLong)
	last, ahead := "", 1
	for r.err == nil && len(run) < total {
		if alike := r.number(total-len(run), api.ErrForm); alike > 0 {
			kind := r.number(3, api.ErrRange)
			r.fail(kind == 1 || kind == ahead, api.ErrForm)
			run = append(run, many(alike, cell.Cell{Kind: kind})...)
			ahead = kind
			continue
		}
		size := r.number(most, api.ErrLong)
		alike := r.number(min(size, len(last)), api.ErrForm)
		rest := r.fixed(size - alike)
		r.fail(rest != "" && alike < len(last) && rest[0] == last[alike], api.ErrForm)
		last, ahead = last[:alike]+rest, 1
		run = append(run, data(last))
	}
	return run
}

func (r *row) end() error {
	r.fail(r.left != "", api.ErrForm)
	return r.err
}

// unframed is the text of one frame.
func unframed(b []byte) *row {
	r := &row{left: string(b)}
	size := r.number(longest, api.ErrLong)
	r.fail(len(r.left) < size+4, api.ErrForm)
	text := r.fixed(size)
	sum := r.fixed(4)
	r.fail(!strings.HasSuffix(string(framed(text)), sum), api.ErrSum)
	return &row{left: text, err: r.end()}
}

// plainTake is Take as the chapter tells it, told once more.
func plainTake(b []byte) (segment.Segment, error) {
	r := unframed(b)
	s := of(r.number(addresses, api.ErrRange))
	s.Cells = r.run()
	if r.end() == nil {
		r.err = plainCheck(s)
	}
	if r.err != nil {
		return segment.Segment{}, r.err
	}
	return s, nil
}

// plainJoin is Join as the chapter tells it, told once more: cell by cell.
func plainJoin(a, b segment.Segment) (segment.Segment, error) {
	for _, s := range []segment.Segment{a, b} {
		if err := plainCheck(s); err != nil {
			return segment.Segment{}, err
		}
	}
	end := a.First
	both := of(a.First)
	for _, c := range a.Cells {
		both.Cells = append(both.Cells, c)
		end++
	}
	if b.First != end {
		return segment.Segment{}, api.ErrState
	}
	both.Cells = append(both.Cells, b.Cells...)
	if err := plainCheck(both); err != nil {
		return segment.Segment{}, err
	}
	return both, nil
}

// plainSlice is Slice as the chapter tells it, told once more: address by address.
func plainSlice(s segment.Segment, from, to int) (segment.Segment, error) {
	if err := plainCheck(s); err != nil {
		return segment.Segment{}, err
	}
	if from < s.First || to > s.First+len(s.Cells) || from > to {
		return segment.Segment{}, api.ErrRange
	}
	part := of(from)
	for i, c := range s.Cells {
		if address := s.First + i; address >= from && address < to {
			part.Cells = append(part.Cells, c)
		}
	}
	return part, nil
}

type wrongCell struct {
	c    cell.Cell
	want error
}

// wrongCells is what isn't a cell, each with what is said of it.
func wrongCells() []wrongCell {
	return []wrongCell{
		{cell.Cell{Kind: -1}, api.ErrRange},
		{cell.Cell{Kind: 4}, api.ErrRange},
		{cell.Cell{Kind: 257, Data: []byte("a")}, api.ErrRange},
		{cell.Cell{Kind: 4, Data: make([]byte, 65)}, api.ErrRange},
		{cell.Cell{Kind: 1<<32 + 1}, api.ErrRange},
		{cell.Cell{Kind: math.MinInt}, api.ErrRange},
		{cell.Cell{Kind: math.MaxInt}, api.ErrRange},
		{cell.Cell{Kind: 1, Data: make([]byte, 65)}, api.ErrLong},
		{cell.Cell{Kind: 0, Data: make([]byte, 65)}, api.ErrLong},
		{cell.Cell{Kind: 2, Data: make([]byte, 1000)}, api.ErrLong},
		{cell.Cell{Kind: 0, Data: make([]byte, 1)}, api.ErrForm},
		{cell.Cell{Kind: 2, Data: make([]byte, 64)}, api.ErrForm},
		{cell.Cell{Kind: 3, Data: []byte("a")}, api.ErrForm},
	}
}

// wrongFirsts is numbers that are no first address.
func wrongFirsts() []int {
	return []int{-1, -64, addresses + 1, 1 << 21, 1 << 32, 1<<32 + 1, 1 << 62, math.MinInt, math.MinInt + 1, math.MaxInt - 1, math.MaxInt}
}

func pick[T any](r *rand.Rand, list ...T) T { return list[r.Intn(len(list))] }

// drawCells is up to so many cells, whose neighbours are often alike.
func drawCells(r *rand.Rand, longest int) []cell.Cell {
	cells := make([]cell.Cell, r.Intn(longest+1))
	kinds := 1 + r.Intn(6)
	last := ""
	for i := range cells {
		cells[i].Kind = r.Intn(kinds) & 3
		if cells[i].Kind == 1 {
			head := last[:r.Intn(len(last)+1)]
			tail := make([]byte, r.Intn(min(5, most-len(head)+1)))
			for k := range tail {
				tail[k] = byte(r.Intn(3))
			}
			last = head + string(tail)
			cells[i].Data = []byte(last)
		}
	}
	return cells
}

// draw is a segment of up to so many cells.
func draw(r *rand.Rand, longest int) segment.Segment {
	cells := drawCells(r, longest)
	top := addresses - len(cells)
	return of(pick(r, 0, 1, r.Intn(300), r.Intn(top+1), top-1, top), cells...)
}

// drawAny is anything that may be handed in as a segment, most often nearly one.
func drawAny(r *rand.Rand) segment.Segment {
	s := draw(r, pick(r, 4, most))
	if r.Intn(8) == 0 {
		s.First = pick(r, wrongFirsts()...)
	}
	if r.Intn(8) == 0 {
		s.Cells = append(s.Cells, many(r.Intn(70), pick(r, empty, hole, data("a")))...)
	}
	if r.Intn(8) == 0 {
		s.First = addresses - r.Intn(len(s.Cells)+1)
	}
	for range 2 {
		if len(s.Cells) > 0 && r.Intn(6) == 0 {
			s.Cells[r.Intn(len(s.Cells))] = pick(r, wrongCells()...).c
		}
	}
	return s
}

// spoil changes a few bytes.
func spoil(r *rand.Rand, text string) string {
	b := []byte(text)
	for range r.Intn(3) {
		switch at := r.Intn(len(b) + 1); r.Intn(4) {
		case 0:
			b = b[:at]
		case 1:
			b = slices.Insert(b, at, byte(r.Intn(256)>>r.Intn(9)))
		case 2:
			b = slices.Delete(b, at, min(at+1+r.Intn(3), len(b)))
		case 3:
			if at < len(b) {
				b[at] = byte(r.Intn(256) >> r.Intn(9))
			}
		}
	}
	return string(b)
}

// rows is all rows of these numbers up to a length.
func rows(numbers []int, longest int) [][]int {
	all, from := [][]int{nil}, 0
	for range longest {
		till := len(all)
		for _, head := range all[from:till] {
			for _, n := range numbers {
				all = append(all, append(slices.Clone(head), n))
			}
		}
		from = till
	}
	return all
}
