package record_test

import (
	"encoding/binary"
	"fmt"
	"hash/crc32"
	"math"
	"math/rand"
	"slices"
	"strings"
	"testing"

	"holdfast/api"
	"holdfast/cell"
	"holdfast/record"
	"holdfast/unit"
)

const (
	epochs    = 1 << 40
	addresses = 1 << 20
	longest   = 65536 // bytes of a frame's text
)

func data(s string) cell.Cell { return cell.Cell{Kind: cell.Data, Data: []byte(s)} }

func of(kind int) cell.Cell { return cell.Cell{Kind: kind} }

func entry(address int, c cell.Cell) unit.Entry { return unit.Entry{Address: address, Cell: c} }

func seal(epoch int) record.Act { return record.Act{Kind: record.Seal, Epoch: epoch} }

func write(epoch, address int, text string) record.Act {
	return record.Act{Kind: record.Write, Epoch: epoch, Address: address, Data: []byte(text)}
}

func fill(epoch, address int) record.Act {
	return record.Act{Kind: record.Fill, Epoch: epoch, Address: address}
}

func trim(epoch, below int) record.Act {
	return record.Act{Kind: record.Trim, Epoch: epoch, Address: below}
}

func cut(epoch, from int) record.Act {
	return record.Act{Kind: record.Cut, Epoch: epoch, Address: from}
}

// long is n bytes, of which no two neighbours are the same.
func long(n int) string {
	b := make([]byte, n)
	for i := range b {
		b[i] = byte(i)
	}
	return string(b)
}

// showAct is an act as it is meant: an empty list is none.
func showAct(a record.Act) string {
	if len(a.Data) > 80 {
		return fmt.Sprintf("%d by %d at %d: %d bytes", a.Kind, a.Epoch, a.Address, len(a.Data))
	}
	return fmt.Sprintf("%d by %d at %d: %q", a.Kind, a.Epoch, a.Address, a.Data)
}

func showEntries(list []unit.Entry) string {
	var words []string
	for _, e := range list {
		words = append(words, fmt.Sprintf("%d=%d:%q", e.Address, e.Cell.Kind, e.Cell.Data))
	}
	return strings.Join(words, " ")
}

func showUnit(u *unit.Unit) string {
	if u == nil {
		return "none"
	}
	return fmt.Sprint(u.Epoch(), " from ", u.Low(), ": ", showEntries(u.Entries()))
}

// number is numbers' bytes by the library.
func number(list ...uint64) string {
	var b []byte
	for _, n := range list {
		b = binary.AppendUvarint(b, n)
	}
	return string(b)
}

// framed is a text's frame by the library.
func framed(text string) []byte {
	b := []byte(number(uint64(len(text))) + text)
	return binary.BigEndian.AppendUint32(b, crc32.Checksum(b, crc32.MakeTable(crc32.Castagnoli)))
}

// meantAct is an act's bytes, told once more.
func meantAct(a record.Act) []byte {
	text := number(uint64(a.Kind), uint64(a.Epoch))
	if a.Kind >= 2 {
		text += number(uint64(a.Address))
	}
	if a.Kind == 2 {
		text += number(uint64(len(a.Data))) + string(a.Data)
	}
	return framed(text)
}

// meantText is the text of a unit's frame, told once more; the entries needn't be a unit's.
func meantText(epoch, low int, list []unit.Entry) string {
	var b strings.Builder
	b.WriteString(number(uint64(epoch), uint64(low), uint64(len(list))))
	for i, e := range list {
		behind := e.Address - low
		if i > 0 {
			behind = e.Address - list[i-1].Address - 1
		}
		b.WriteString(number(uint64(behind), uint64(e.Cell.Kind)))
		if e.Cell.Kind == 1 {
			b.WriteString(number(uint64(len(e.Cell.Data))) + string(e.Cell.Data))
		}
	}
	return b.String()
}

// row is what is left of bytes, and the first thing that was wrong with them.
type row struct {
	left string
	err  error
}

func (r *row) fail(err error) {
	if r.err == nil {
		r.err = err
	}
}

// number takes one; above is the error of one above most.
func (r *row) number(most uint64, above error) uint64 {
	if r.err != nil {
		return 0
	}
	n, size := binary.Uvarint([]byte(r.left))
	if size <= 0 || number(n) != r.left[:size] {
		r.fail(api.ErrForm)
		return 0
	}
	r.left = r.left[size:]
	if n > most {
		r.fail(above)
		return 0
	}
	return n
}

func (r *row) fixed(many int) string {
	if many > len(r.left) {
		r.fail(api.ErrForm)
	}
	if r.err != nil {
		return ""
	}
	text := r.left[:many]
	r.left = r.left[many:]
	return text
}

func (r *row) end() error {
	if r.left != "" {
		r.fail(api.ErrForm)
	}
	return r.err
}

// unframed is the text of one frame.
func unframed(b []byte) *row {
	r := &row{left: string(b)}
	many := r.number(longest, api.ErrLong)
	if len(r.left) < int(many)+4 {
		r.fail(api.ErrForm)
	}
	text := r.fixed(int(many))
	sum := r.fixed(4)
	if !strings.HasSuffix(string(framed(text)), sum) {
		r.fail(api.ErrSum)
	}
	return &row{left: text, err: r.end()}
}

// plainCheck is Check as the chapter tells it, told once more.
func plainCheck(a record.Act) error {
	most := addresses
	if a.Kind == 2 || a.Kind == 3 {
		most = addresses - 1
	}
	switch {
	case !slices.Contains([]int{1, 2, 3, 4, 5}, a.Kind), a.Epoch < 0, a.Epoch > epochs, a.Address < 0, a.Address > most:
		return api.ErrRange
	case len(a.Data) > 64:
		return api.ErrLong
	case a.Kind == 1 && a.Address != 0, a.Kind != 2 && len(a.Data) != 0:
		return api.ErrForm
	}
	return nil
}

// plainAct is Take as the chapter tells it, told once more.
func plainAct(b []byte) (record.Act, error) {
	r := unframed(b)
	a := record.Act{Kind: int(r.number(5, api.ErrRange))}
	if a.Kind == 0 {
		r.fail(api.ErrRange)
	}
	a.Epoch = int(r.number(epochs, api.ErrRange))
	if a.Kind >= 2 {
		a.Address = int(r.number(addresses, api.ErrRange))
	}
	if a.Kind == 2 {
		a.Data = []byte(r.fixed(int(r.number(64, api.ErrLong))))
	}
	if r.end() == nil && a.Address == addresses && a.Kind <= 3 {
		r.fail(api.ErrRange)
	}
	if r.err != nil {
		return record.Act{}, r.err
	}
	return a, nil
}

// plainUnit is TakeUnit as the chapter tells it, told once more: what the unit shows.
func plainUnit(b []byte) (string, error) {
	r := unframed(b)
	epoch := r.number(epochs, api.ErrRange)
	low := r.number(addresses, api.ErrRange)
	many := r.number(65536, api.ErrLong)
	var list []unit.Entry
	odd := false
	for first := low; many > 0 && r.err == nil; many-- {
		behind := r.number(math.MaxUint64, nil)
		if behind > addresses || first+behind >= addresses {
			r.fail(api.ErrRange)
		}
		kind := r.number(3, api.ErrRange)
		text := ""
		if kind == 1 {
			text = r.fixed(int(r.number(64, api.ErrLong)))
		}
		odd = odd || kind == 0 || kind == 3
		list = append(list, entry(int(first+behind), cell.Cell{Kind: int(kind), Data: []byte(text)}))
		first += behind + 1
	}
	if r.end() == nil && odd {
		r.fail(api.ErrForm)
	}
	if r.err != nil {
		return "none", r.err
	}
	return fmt.Sprint(epoch, " from ", low, ": ", showEntries(list)), nil
}

// made is a unit of entries.
func made(t *testing.T, epoch, low int, list ...unit.Entry) *unit.Unit {
	t.Helper()
	u, err := unit.Of(epoch, low, list)
	if err != nil {
		t.Fatal(err)
	}
	return u
}

// kinds, epochsAround, addressesAround and sizes are what the tests put together: what is meant, its edges, and what lies beyond.

func kinds() []int {
	return []int{1, 2, 3, 4, 5, 0, -1, 6, 7, 256 + 2, 1<<32 + 1, math.MinInt, math.MaxInt}
}

func epochsAround() []int {
	return []int{0, 1, 127, 128, epochs - 1, epochs, -1, epochs + 1, 1 << 41, math.MinInt, math.MaxInt}
}

func addressesAround() []int {
	return []int{0, 1, 127, 128, addresses - 1, addresses, -1, addresses + 1, 1 << 32, 1<<32 + 1, math.MinInt, math.MaxInt}
}

func sizes() []int { return []int{0, 1, 63, 64, 65, 1000} }

// someActs is acts and what is none: of all that is put together.
func someActs() []record.Act {
	var list []record.Act
	for _, kind := range kinds() {
		for _, epoch := range epochsAround() {
			for _, address := range addressesAround() {
				for _, size := range sizes() {
					list = append(list, record.Act{Kind: kind, Epoch: epoch, Address: address, Data: []byte(long(size))})
				}
			}
		}
	}
	return list
}

func pick[T any](r *rand.Rand, list ...T) T { return list[r.Intn(len(list))] }

func drawText(r *rand.Rand) string {
	b := make([]byte, pick(r, 0, 1, 2, 3, 63, 64))
	r.Read(b)
	return string(b)
}

// drawAct is an act.
func drawAct(r *rand.Rand) record.Act {
	a := record.Act{Kind: 1 + r.Intn(5), Epoch: pick(r, 0, 1, r.Intn(300), r.Intn(epochs), epochs)}
	if a.Kind >= 2 {
		a.Address = pick(r, 0, 1, r.Intn(300), r.Intn(addresses), addresses-1)
	}
	if a.Kind >= 4 && r.Intn(4) == 0 {
		a.Address = addresses
	}
	if a.Kind == 2 {
		a.Data = []byte(drawText(r))
	}
	return a
}

// drawEntries is entries at rising addresses from low on; odd asks for cells that no unit has, too.
func drawEntries(r *rand.Rand, low int, odd bool) []unit.Entry {
	var list []unit.Entry
	address := low
	for range r.Intn(8) {
		address += pick(r, 0, 0, 1, r.Intn(200), r.Intn(20000))
		if address >= addresses {
			break
		}
		c := of(cell.Hole)
		if r.Intn(3) > 0 {
			c = data(drawText(r))
		} else if odd && r.Intn(6) == 0 {
			c = of(pick(r, cell.Empty, cell.Trimmed))
		}
		list = append(list, entry(address, c))
		address++
	}
	return list
}

func drawLow(r *rand.Rand) int {
	return pick(r, 0, 0, 1, r.Intn(300), r.Intn(addresses), addresses-3, addresses-1, addresses)
}

func drawUnit(t *testing.T, r *rand.Rand) *unit.Unit {
	low := drawLow(r)
	return made(t, pick(r, 0, 1, r.Intn(300), r.Intn(epochs), epochs), low, drawEntries(r, low, false)...)
}

// spoil changes a few bytes.
func spoil(r *rand.Rand, text string) string {
	b := []byte(text)
	for range r.Intn(3) {
		switch at := r.Intn(len(b) + 1); r.Intn(4) {
		case 0:
			b = b[:at]
		case 1:
			b = slices.Insert(b, at, byte(r.Intn(256)>>r.Intn(9)))
		case 2:
			b = slices.Delete(b, at, min(at+1+r.Intn(3), len(b)))
		case 3:
			if at < len(b) {
				b[at] = byte(r.Intn(256) >> r.Intn(9))
			}
		}
	}
	return string(b)
}

// rows is all rows of these bytes up to a length.
func rows(letters string, longest int) []string {
	all, from := []string{""}, 0
	for range longest {
		till := len(all)
		for _, head := range all[from:till] {
			for i := range len(letters) {
				all = append(all, head+letters[i:i+1])
			}
		}
		from = till
	}
	return all
}

// spoiltFrames is bytes that are no frame, or more than one, and what is said of them; text is a good one's.
func spoiltFrames(text string) map[string]error {
	good := string(framed(text))
	turned := []byte(good)
	turned[len(turned)-1] ^= 1
	return map[string]error{
		"":                                 api.ErrForm,
		"\x80":                             api.ErrForm,
		"\x80\x00":                         api.ErrForm,
		good[:len(good)-1]:                 api.ErrForm,
		good + "\x00":                      api.ErrForm,
		good + good:                        api.ErrForm,
		string(turned):                     api.ErrSum,
		string(turned) + "\x00":            api.ErrSum,
		number(longest):                    api.ErrForm,
		number(longest + 1):                api.ErrLong,
		number(math.MaxUint64):             api.ErrLong,
		string(framed(long(longest + 1))):  api.ErrLong,
		string(framed(long(longest))) + "": api.ErrRange, // a frame, but its text begins with 0, 1, 2
	}
}
