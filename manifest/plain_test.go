package manifest_test

import (
	"crypto/sha256"
	"encoding/binary"
	"fmt"
	"hash/crc32"
	"math"
	"math/rand"
	"slices"
	"strings"

	"holdfast/api"
	"holdfast/cell"
	"holdfast/manifest"
	"holdfast/segment"
	"holdfast/sha"
)

const (
	addresses = 1 << 20
	numbers   = 1000000
	most      = 64    // cells of a part, and bytes of a cell
	mostParts = 1024  // parts of a manifest
	mostSize  = 65536 // bytes of a part
	longest   = 65536 // bytes of a frame's text
)

var (
	none    = sha.Digest{}
	empty   = cell.Cell{}
	hole    = cell.Cell{Kind: 2}
	trimmed = cell.Cell{Kind: 3}
)

func data(s string) cell.Cell { return cell.Cell{Kind: 1, Data: []byte(s)} }

// sumOf is a text's digest by the library.
func sumOf(text string) sha.Digest { return sha256.Sum256([]byte(text)) }

// row is parts one behind the other, from an address on, of so many cells each; no two of them are alike.
func row(from int, sizes ...int) []manifest.Part {
	var list []manifest.Part
	for i, many := range sizes {
		list = append(list, manifest.Part{First: from, Many: many, Size: 5*i + 7, Sum: sumOf(fmt.Sprint("part ", i))})
		from += many
	}
	return list
}

// of is the manifest of a number that has such parts, with the mark 2, and something ahead of it.
func of(number, from int, sizes ...int) manifest.Manifest {
	m := manifest.Manifest{Number: number, From: from, To: from, Trim: 2, Parts: row(from, sizes...)}
	for _, many := range sizes {
		m.To += many
	}
	if number != 0 {
		m.Prev = sumOf("ahead")
	}
	return m
}

// but is a manifest in which something is otherwise.
func but(m manifest.Manifest, change func(m *manifest.Manifest)) manifest.Manifest {
	m.Parts = slices.Clone(m.Parts)
	change(&m)
	return m
}

// show is a manifest as it is meant: an empty list is none.
func show(m manifest.Manifest) string {
	parts := make([]string, len(m.Parts))
	for i, p := range m.Parts {
		parts[i] = showPart(p)
	}
	return fmt.Sprintf("%d: %d to %d, trim %d, ahead %x, %d parts: ", m.Number, m.From, m.To, m.Trim, m.Prev, len(parts)) + strings.Join(parts, " ")
}

func showPart(p manifest.Part) string {
	return fmt.Sprintf("[%d, %d cells, %d bytes, %x]", p.First, p.Many, p.Size, p.Sum)
}

// brief is so much of what is shown as may be read.
func brief(m manifest.Manifest) string { return fmt.Sprintf("%.600s", show(m)) }

// nothing is what stands beside an error.
var nothing = show(manifest.Manifest{})

// number is numbers' bytes by the library.
func number(list ...uint64) string {
	var b []byte
	for _, n := range list {
		b = binary.AppendUvarint(b, n)
	}
	return string(b)
}

// framed is a text's frame by the library.
func framed(text string) []byte {
	b := []byte(number(uint64(len(text))) + text)
	return binary.BigEndian.AppendUint32(b, crc32.Checksum(b, crc32.MakeTable(crc32.Castagnoli)))
}

// meantText is the text of a manifest's frame, told once more.
func meantText(m manifest.Manifest) string {
	parts := []string{number(uint64(m.Number), uint64(m.From), uint64(m.To), uint64(m.Trim)), string(m.Prev[:]), number(uint64(len(m.Parts)))}
	for _, p := range m.Parts {
		parts = append(parts, number(uint64(p.Many), uint64(p.Size)), string(p.Sum[:]))
	}
	return strings.Join(parts, "")
}

// plainCheck is Check as the chapter tells it, told once more.
func plainCheck(m manifest.Manifest) error {
	if m.Number < 0 || m.Number >= numbers {
		return api.ErrRange
	}
	for _, n := range []int{m.From, m.To, m.Trim} {
		if n < 0 || n > addresses {
			return api.ErrRange
		}
	}
	switch {
	case m.From > m.To:
		return api.ErrForm
	case m.Number == 0 && m.Prev != none:
		return api.ErrForm
	case len(m.Parts) > mostParts:
		return api.ErrLong
	}
	left := m.To - m.From
	for _, p := range m.Parts {
		if p.Many <= 0 || p.Many > most || p.Size <= 0 || p.Size > mostSize {
			return api.ErrRange
		}
		if p.First+left != m.To {
			return api.ErrForm
		}
		left -= p.Many
	}
	if left != 0 {
		return api.ErrForm
	}
	return nil
}

// reader is what is left of bytes, and the first thing that was wrong with them.
type reader struct {
	left string
	err  error
}

func (r *reader) fail(bad bool, err error) {
	if bad && r.err == nil {
		r.err = err
	}
}

// number takes one; above is the error of one above top.
func (r *reader) number(top int, above error) int {
	if r.err != nil {
		return 0
	}
	n, size := binary.Uvarint([]byte(r.left))
	if size <= 0 || number(n) != r.left[:size] {
		r.fail(true, api.ErrForm)
		return 0
	}
	r.left = r.left[size:]
	if n > uint64(top) {
		r.fail(true, above)
		return 0
	}
	return int(n)
}

func (r *reader) fixed(many int) string {
	r.fail(many > len(r.left), api.ErrForm)
	if r.err != nil {
		return ""
	}
	text := r.left[:many]
	r.left = r.left[many:]
	return text
}

func (r *reader) digest() sha.Digest {
	text := r.fixed(32)
	if r.err != nil {
		return none
	}
	return sha.Digest([]byte(text))
}

func (r *reader) end() error {
	r.fail(r.left != "", api.ErrForm)
	return r.err
}

// unframed is the text of one frame.
func unframed(b []byte) *reader {
	r := &reader{left: string(b)}
	size := r.number(longest, api.ErrLong)
	r.fail(len(r.left) < size+4, api.ErrForm)
	text := r.fixed(size)
	sum := r.fixed(4)
	r.fail(!strings.HasSuffix(string(framed(text)), sum), api.ErrSum)
	return &reader{left: text, err: r.end()}
}

// plainTake is Take as the chapter tells it, told once more.
func plainTake(b []byte) (manifest.Manifest, error) {
	r := unframed(b)
	var m manifest.Manifest
	m.Number = r.number(numbers-1, api.ErrRange)
	for _, n := range []*int{&m.From, &m.To, &m.Trim} {
		*n = r.number(addresses, api.ErrRange)
	}
	m.Prev = r.digest()
	end := m.From
	for range r.number(mostParts, api.ErrLong) {
		p := manifest.Part{First: end, Many: r.number(most, api.ErrRange), Size: r.number(mostSize, api.ErrRange), Sum: r.digest()}
		end += p.Many
		m.Parts = append(m.Parts, p)
	}
	if r.end() == nil {
		r.err = plainCheck(m)
	}
	if r.err != nil {
		return manifest.Manifest{}, r.err
	}
	return m, nil
}

// wrongMarks is numbers that are no From, To or trim mark.
func wrongMarks() []int {
	return []int{-1, -64, addresses + 1, 1 << 21, 1 << 32, 1<<32 + 1, 1 << 62, math.MinInt, math.MinInt + 1, math.MaxInt - 1, math.MaxInt}
}

// wrongNumbers is numbers of no manifest.
func wrongNumbers() []int {
	return []int{-1, -2, numbers, numbers + 1, 1 << 20, 1 << 32, 1<<32 + 1, math.MinInt, math.MaxInt}
}

// wrongManies is how many cells no part has.
func wrongManies() []int {
	return []int{0, -1, -most, most + 1, 128, 256, 257, 1 << 32, 1<<32 + 1, math.MinInt, math.MaxInt}
}

// wrongSizes is how many bytes no part has.
func wrongSizes() []int {
	return []int{0, -1, mostSize + 1, 1 << 17, 1 << 32, 1<<32 + 1, math.MinInt, math.MaxInt}
}

func pick[T any](r *rand.Rand, list ...T) T { return list[r.Intn(len(list))] }

func drawDigest(r *rand.Rand) (d sha.Digest) {
	r.Read(d[:])
	return d
}

// draw is a manifest of up to so many parts.
func draw(r *rand.Rand, parts int) manifest.Manifest {
	m := manifest.Manifest{Number: pick(r, 0, 1, 127, 128, r.Intn(numbers), numbers-1)}
	sizes := make([]int, r.Intn(parts+1))
	total := 0
	for i := range sizes {
		sizes[i] = pick(r, 1, most, 1+r.Intn(most))
		total += sizes[i]
	}
	m.From = pick(r, 0, 1, r.Intn(300), r.Intn(addresses-total+1), addresses-total)
	m.To = m.From + total
	m.Trim = pick(r, 0, m.From, m.To, addresses, r.Intn(addresses+1))
	if m.Number > 0 && r.Intn(4) > 0 {
		m.Prev = drawDigest(r)
	}
	m.Parts = row(m.From, sizes...)
	for i := range m.Parts {
		m.Parts[i].Size = pick(r, 1, 1+r.Intn(300), 1+r.Intn(mostSize), mostSize)
		m.Parts[i].Sum = drawDigest(r)
	}
	return m
}

// spoilOne changes something of a manifest; most often it is none then.
func spoilOne(r *rand.Rand, m *manifest.Manifest) {
	near := r.Intn(3) - 1
	if len(m.Parts) > 0 && r.Intn(2) == 0 {
		p := &m.Parts[r.Intn(len(m.Parts))]
		switch r.Intn(6) {
		case 0:
			p.First += near
		case 1:
			p.First = pick(r, wrongMarks()...)
		case 2:
			p.Many += near
		case 3:
			p.Many = pick(r, wrongManies()...)
		case 4:
			p.Size = pick(r, wrongSizes()...)
		case 5:
			p.Sum = drawDigest(r)
		}
		return
	}
	switch r.Intn(8) {
	case 0:
		m.Number = pick(r, wrongNumbers()...)
	case 1:
		m.From = pick(r, m.From+near, pick(r, wrongMarks()...))
	case 2:
		m.To = pick(r, m.To+near, pick(r, wrongMarks()...))
	case 3:
		m.Trim = pick(r, m.Trim+near, pick(r, wrongMarks()...))
	case 4:
		m.Number = 0
	case 5:
		m.From, m.To = m.To, m.From
	case 6:
		m.Parts = append(m.Parts, pick(r, row(m.To, 1)...))
	case 7:
		m.Parts = slices.Grow(m.Parts, mostParts+1)[:mostParts+r.Intn(2)]
	}
}

// drawAny is anything that may be handed in as a manifest, most often nearly one.
func drawAny(r *rand.Rand) manifest.Manifest {
	m := draw(r, 6)
	for range pick(r, 0, 0, 1, 1, 2, 3) {
		spoilOne(r, &m)
	}
	return m
}

// spoil changes a few bytes.
func spoil(r *rand.Rand, text string) string {
	b := []byte(text)
	for range r.Intn(3) {
		switch at := r.Intn(len(b) + 1); r.Intn(5) {
		case 0:
			b = b[:at]
		case 1:
			b = slices.Insert(b, at, byte(r.Intn(256)>>r.Intn(9)))
		case 2:
			b = slices.Delete(b, at, min(at+1+r.Intn(3), len(b)))
		default:
			if at < len(b) {
				b[at] = byte(r.Intn(256) >> r.Intn(9))
			}
		}
	}
	return string(b)
}

// showSegment is a segment as it is meant.
func showSegment(s segment.Segment) string {
	text := fmt.Sprint(s.First)
	for _, c := range s.Cells {
		text += fmt.Sprintf(" %d:%q", c.Kind, c.Data)
	}
	return text
}

// noSegment is what stands beside an error.
var noSegment = showSegment(segment.Segment{})

// cellsFrom is a segment.
func cellsFrom(first int, cells ...cell.Cell) segment.Segment {
	return segment.Segment{First: first, Cells: cells}
}

// drawSegment is a segment of one cell at least.
func drawSegment(r *rand.Rand) segment.Segment {
	cells := make([]cell.Cell, 1+r.Intn(most))
	for i := range cells {
		cells[i].Kind = r.Intn(4)
		if cells[i].Kind == 1 {
			cells[i].Data = make([]byte, r.Intn(most+1))
			r.Read(cells[i].Data)
		}
	}
	return cellsFrom(pick(r, 0, 1, r.Intn(addresses-most), addresses-len(cells)), cells...)
}
