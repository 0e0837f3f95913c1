package unit_test

import (
	"fmt"
	"math"
	"slices"
	"strings"
	"testing"

	"holdfast/api"
	"holdfast/cell"
	"holdfast/unit"
)

const (
	epochs    = 1 << 40
	addresses = 1 << 20
)

func data(s string) cell.Cell { return cell.Cell{Kind: cell.Data, Data: []byte(s)} }

func of(kind int) cell.Cell { return cell.Cell{Kind: kind} }

func entry(address int, c cell.Cell) unit.Entry { return unit.Entry{Address: address, Cell: c} }

// show is a cell as it is meant: an empty list is none.
func show(c cell.Cell) string { return fmt.Sprintf("%d:%q", c.Kind, c.Data) }

func showAll(list []unit.Entry) string {
	var words []string
	for _, e := range list {
		words = append(words, fmt.Sprint(e.Address, "=", show(e.Cell)))
	}
	return strings.Join(words, " ")
}

// windows is the addresses at which the tests look, and write.
func windows() []int {
	return []int{0, 1, 2, 3, 4, 5, 6, 7, 8, 127, 128, 65535, 65536, addresses - 4, addresses - 3, addresses - 2, addresses - 1}
}

// outside is numbers that are no address.
func outside() []int {
	return []int{-1, -2, addresses, addresses + 1, 1 << 32, 1<<32 + 1, math.MinInt, math.MinInt + 1, math.MaxInt}
}

// beyond is numbers that are neither an address, nor that behind the last one.
func beyond() []int {
	return slices.DeleteFunc(outside(), func(n int) bool { return n == addresses })
}

// noEpochs is numbers that are no epoch.
func noEpochs() []int {
	return []int{-1, -2, epochs + 1, epochs + 2, 1 << 41, math.MinInt, math.MaxInt}
}

// step is what was done: w writes, f fills, t trims below an address, c cuts from an address on.
type step struct {
	op   byte
	n    int
	text string
}

// on is the kind and the text of a cell behind a step.
func (s step) on(address, kind int, text string) (int, string) {
	switch {
	case s.op == 'w' && s.n == address:
		return 1, s.text
	case s.op == 'f' && s.n == address:
		return 2, ""
	case s.op == 't' && address < s.n:
		return 3, ""
	case s.op == 'c' && address >= s.n:
		return 0, ""
	}
	return kind, text
}

// plain is a unit as the chapter tells it, told once more: each cell is worked out from all that was done.
type plain struct {
	epoch int
	done  []step
}

func (p *plain) at(address int) (kind int, text string) {
	for _, s := range p.done {
		kind, text = s.on(address, kind, text)
	}
	return kind, text
}

func (p *plain) low() int {
	low := 0
	for _, s := range p.done {
		if s.op == 't' && s.n > low {
			low = s.n
		}
	}
	return low
}

func (p *plain) entries() []unit.Entry {
	var list []unit.Entry
	for _, address := range windows() {
		kind, text := p.at(address)
		if kind == 1 || kind == 2 {
			list = append(list, entry(address, cell.Cell{Kind: kind, Data: []byte(text)}))
		}
	}
	return list
}

func (p *plain) tail() int {
	if list := p.entries(); len(list) > 0 {
		return list[len(list)-1].Address + 1
	}
	return p.low()
}

func (p *plain) asked(epoch int) error {
	switch {
	case epoch < p.epoch:
		return api.ErrSealed
	case epoch > p.epoch:
		return api.ErrEpoch
	}
	return nil
}

// refused is why a step isn't done.
func (p *plain) refused(epoch int, s step) error {
	most := addresses - 1
	if s.op == 't' || s.op == 'c' {
		most = addresses
	}
	if s.n < 0 || s.n > most {
		return api.ErrRange
	}
	if len(s.text) > 64 {
		return api.ErrLong
	}
	if err := p.asked(epoch); err != nil {
		return err
	}
	kind, _ := p.at(s.n)
	switch {
	case s.op == 't':
		return nil
	case s.op == 'c' && s.n < p.low(), s.op != 'c' && kind == 3:
		return api.ErrTrimmed
	case s.op == 'w' && kind != 0, s.op == 'f' && kind == 1:
		return api.ErrWritten
	}
	return nil
}

// gone is how many cells a cut empties.
func (p *plain) gone(from int) int {
	n := 0
	for _, e := range p.entries() {
		if e.Address >= from {
			n++
		}
	}
	return n
}

func (p *plain) do(epoch int, s step) (gone int, err error) {
	if err := p.refused(epoch, s); err != nil {
		return 0, err
	}
	if s.op == 'c' {
		gone = p.gone(s.n)
	}
	p.done = append(p.done, s)
	return gone, nil
}

func (p *plain) seal(epoch int) (int, error) {
	if epoch < 0 || epoch > epochs {
		return 0, api.ErrRange
	}
	if epoch <= p.epoch {
		return 0, api.ErrSealed
	}
	p.epoch = epoch
	return p.tail(), nil
}

// differs tells what a unit answers otherwise than it is meant, or nothing.
func (p *plain) differs(u *unit.Unit) string {
	if u.Epoch() != p.epoch || u.Low() != p.low() {
		return fmt.Sprint("epoch ", u.Epoch(), ", low ", u.Low(), ", want ", p.epoch, p.low())
	}
	if tail, err := u.Tail(p.epoch); tail != p.tail() || err != nil {
		return fmt.Sprint("tail ", tail, err, ", want ", p.tail())
	}
	if got, want := showAll(u.Entries()), showAll(p.entries()); got != want {
		return fmt.Sprint("entries ", got, ", want ", want)
	}
	for _, address := range windows() {
		kind, text := p.at(address)
		c, err := u.Read(p.epoch, address)
		if show(c) != show(cell.Cell{Kind: kind, Data: []byte(text)}) || err != nil {
			return fmt.Sprint("cell ", address, ": ", show(c), err, ", want ", kind, text)
		}
	}
	return ""
}

// pair is a unit, and what is meant by it; each call is asked of both.
type pair struct {
	t *testing.T
	u *unit.Unit
	p *plain
}

func begin(t *testing.T) *pair {
	t.Helper()
	x := &pair{t, unit.New(), &plain{}}
	x.same("New")
	return x
}

func (x *pair) same(call string) {
	x.t.Helper()
	if s := x.p.differs(x.u); s != "" {
		x.t.Fatalf("behind %s: %s", call, s)
	}
}

// ask asks a unit for a step.
func ask(u *unit.Unit, epoch int, s step) (gone int, err error) {
	switch s.op {
	case 'w':
		return 0, u.Write(epoch, s.n, []byte(s.text))
	case 'f':
		return 0, u.Fill(epoch, s.n)
	case 't':
		return 0, u.Trim(epoch, s.n)
	}
	return u.Cut(epoch, s.n)
}

// do asks for a step; it answers what is meant, and what was answered, too.
func (x *pair) do(epoch int, s step) (int, error) {
	x.t.Helper()
	call := fmt.Sprintf("%c by %d of %d, %d bytes", s.op, epoch, s.n, len(s.text))
	want, wantErr := x.p.do(epoch, s)
	if got, err := ask(x.u, epoch, s); got != want || err != wantErr {
		x.t.Fatalf("%s: %d, %v, want %d, %v", call, got, err, want, wantErr)
	}
	x.same(call)
	return want, wantErr
}

// wants asks for steps by the unit's own epoch, whose answers are told.
func (x *pair) wants(want error, steps ...step) {
	x.t.Helper()
	for _, s := range steps {
		x.by(x.p.epoch, want, s)
	}
}

// by asks for steps by an epoch.
func (x *pair) by(epoch int, want error, steps ...step) {
	x.t.Helper()
	for _, s := range steps {
		if _, err := x.do(epoch, s); err != want {
			x.t.Fatalf("%c by %d of %d, %d bytes: %v, want %v", s.op, epoch, s.n, len(s.text), err, want)
		}
	}
}

// cuts asks for a cut, by the unit's own epoch, of so many cells.
func (x *pair) cuts(from, want int) {
	x.t.Helper()
	if gone, err := x.do(x.p.epoch, cut(from)); gone != want || err != nil {
		x.t.Fatalf("Cut(%d) = %d, %v, want %d", from, gone, err, want)
	}
}

// seals asks for a Seal, whose answer is told.
func (x *pair) seals(epoch, want int, wantErr error) {
	x.t.Helper()
	tail, err := x.u.Seal(epoch)
	meant, meantErr := x.p.seal(epoch)
	if tail != want || err != wantErr || meant != want || meantErr != wantErr {
		x.t.Fatalf("Seal(%d) = %d, %v, meant %d, %v, want %d, %v", epoch, tail, err, meant, meantErr, want, wantErr)
	}
	x.same("Seal")
}

// has asks whether the unit has these entries, and that tail.
func (x *pair) has(tail int, list ...unit.Entry) {
	x.t.Helper()
	if got, err := x.u.Tail(x.u.Epoch()); got != tail || err != nil {
		x.t.Errorf("tail %d, %v, want %d", got, err, tail)
	}
	if got, want := showAll(x.u.Entries()), showAll(list); got != want {
		x.t.Errorf("entries %s, want %s", got, want)
	}
}

func write(address int, text string) step { return step{op: 'w', n: address, text: text} }
func fill(address int) step               { return step{op: 'f', n: address} }
func trim(below int) step                 { return step{op: 't', n: below} }
func cut(from int) step                   { return step{op: 'c', n: from} }

// long is n bytes, of which no two neighbours are the same.
func long(n int) string {
	b := make([]byte, n)
	for i := range b {
		b[i] = byte(i)
	}
	return string(b)
}
