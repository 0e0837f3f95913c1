package varint_test

import (
	"bytes"
	"encoding/binary"
	"errors"
	"math"
	"math/rand"
	"slices"
	"testing"

	"holdfast/api"
	"holdfast/varint"
)

// nothingLeft asks whether a reader with an error answers nothing, and keeps that error.
func nothingLeft(t *testing.T, r *varint.Reader, err error) {
	t.Helper()
	r.Fail(api.ErrDown)
	if n := r.Number(); n != 0 {
		t.Error("Number", n)
	}
	if n := r.Within(math.MaxUint64); n != 0 {
		t.Error("Within", n)
	}
	if b := r.Text(math.MaxInt); len(b) != 0 {
		t.Error("Text", b)
	}
	if b := r.Text(-1); len(b) != 0 {
		t.Error("Text", b)
	}
	if l := r.List(math.MaxInt); len(l) != 0 {
		t.Error("List", l)
	}
	if b := r.Fixed(0); len(b) != 0 {
		t.Error("Fixed", b)
	}
	if b := r.Fixed(1); len(b) != 0 {
		t.Error("Fixed", b)
	}
	if b := r.Fixed(-1); len(b) != 0 {
		t.Error("Fixed", b)
	}
	if n := r.Left(); n != 0 {
		t.Error("Left", n)
	}
	if r.Err() != err || r.End() != err {
		t.Error("Err", r.Err(), "End", r.End(), "want", err)
	}
}

// refused asks whether a call is refused, with nothing in its answer and with nothing taken behind it.
func refused(t *testing.T, b []byte, call func(r *varint.Reader) int, want error) {
	t.Helper()
	r := varint.New(b)
	if got := call(r); got != 0 {
		t.Errorf("of %v: an answer beside an error: %d", b, got)
	}
	nothingLeft(t, r, want)
}

func within(most uint64) func(*varint.Reader) int {
	return func(r *varint.Reader) int { return r.Within(most) }
}

func text(most int) func(*varint.Reader) int {
	return func(r *varint.Reader) int { return len(r.Text(most)) }
}

func list(most int) func(*varint.Reader) int {
	return func(r *varint.Reader) int { return len(r.List(most)) }
}

func fixed(many int) func(*varint.Reader) int {
	return func(r *varint.Reader) int { return len(r.Fixed(many)) }
}

func number(r *varint.Reader) int { return int(r.Number()) }

func TestReaderRefuses(t *testing.T) {
	huge := varint.Put(nil, math.MaxUint64)
	most := varint.Put(nil, math.MaxInt)
	for _, c := range []struct {
		bytes []byte
		call  func(*varint.Reader) int
		want  error
	}{
		{nil, number, api.ErrForm},
		{[]byte{128}, number, api.ErrForm},
		{[]byte{128, 0, 1}, number, api.ErrForm},
		{nil, within(5), api.ErrForm},
		{[]byte{128, 0}, within(0), api.ErrForm},
		{[]byte{5, 1}, within(4), api.ErrRange},
		{[]byte{1}, within(0), api.ErrRange},
		{varint.Put(nil, 1<<62+1), within(math.MaxUint64), api.ErrRange},
		{varint.Put(nil, 1<<62+1), within(1<<62 + 1), api.ErrRange},
		{huge, within(math.MaxUint64), api.ErrRange},
		{nil, text(5), api.ErrForm},
		{nil, text(-1), api.ErrForm},
		{[]byte{128, 0}, text(-1), api.ErrForm},
		{[]byte{0}, text(-1), api.ErrLong},
		{[]byte{0}, text(math.MinInt), api.ErrLong},
		{[]byte{3, 1, 2, 3}, text(2), api.ErrLong},
		{[]byte{3, 1}, text(2), api.ErrLong},
		{[]byte{3, 1, 2}, text(3), api.ErrForm},
		{[]byte{1}, text(math.MaxInt), api.ErrForm},
		{huge, text(math.MaxInt), api.ErrLong},
		{most, text(math.MaxInt), api.ErrForm},
		{nil, list(5), api.ErrForm},
		{nil, list(-1), api.ErrForm},
		{[]byte{0}, list(-1), api.ErrLong},
		{[]byte{3, 1, 2, 3}, list(2), api.ErrLong},
		{[]byte{3, 128, 0, 3}, list(2), api.ErrLong},
		{[]byte{3, 1, 2}, list(3), api.ErrForm},
		{[]byte{3, 1, 128, 0, 3}, list(3), api.ErrForm},
		{[]byte{2, 1, 128}, list(3), api.ErrForm},
		{huge, list(math.MaxInt), api.ErrLong},
		{append(bytes.Clone(most), 1, 2, 3), list(math.MaxInt), api.ErrForm},
		{nil, fixed(1), api.ErrForm},
		{[]byte{1, 2}, fixed(3), api.ErrForm},
		{[]byte{1, 2}, fixed(-1), api.ErrForm},
		{[]byte{1, 2}, fixed(math.MaxInt), api.ErrForm},
		{[]byte{1, 2}, fixed(math.MinInt), api.ErrForm},
	} {
		refused(t, c.bytes, c.call, c.want)
	}
}

func TestReaderAtItsEdges(t *testing.T) {
	r := varint.New(varint.Put(nil, 0, 5, 1<<62, math.MaxUint64))
	if n := r.Within(0); n != 0 || r.Err() != nil {
		t.Error(n, r.Err())
	}
	if n := r.Within(5); n != 5 {
		t.Error(n)
	}
	if n := r.Within(math.MaxUint64); n != 1<<62 {
		t.Error(n)
	}
	if n := r.Number(); n != math.MaxUint64 || r.Err() != nil || r.End() != nil {
		t.Error(n, r.Err())
	}
	r = varint.New([]byte{0, 0, 2, 'a', 'b', 2, 7, 172, 2})
	if b := r.Text(0); len(b) != 0 || r.Err() != nil || r.Left() != 8 {
		t.Error(b, r.Err(), r.Left())
	}
	if l := r.List(0); len(l) != 0 || r.Err() != nil || r.Left() != 7 {
		t.Error(l, r.Err(), r.Left())
	}
	if b := r.Text(math.MaxInt); string(b) != "ab" || r.Left() != 4 {
		t.Error(b, r.Left())
	}
	if l := r.List(math.MaxInt); !slices.Equal(l, []uint64{7, 300}) || r.Left() != 0 || r.End() != nil {
		t.Error(l, r.Left(), r.End())
	}
	if b := r.Fixed(0); len(b) != 0 || r.Err() != nil {
		t.Error(b, r.Err())
	}
}

func TestReaderEnd(t *testing.T) {
	for _, b := range [][]byte{nil, {}} {
		r := varint.New(b)
		if r.Left() != 0 || r.Err() != nil || r.End() != nil {
			t.Error(r.Left(), r.Err(), r.End())
		}
	}
	r := varint.New([]byte{1, 2})
	if r.End() != api.ErrForm || r.Err() != nil || r.Left() != 2 {
		t.Error("End is no error of the reader's", r.Err(), r.Left())
	}
	if b := r.Fixed(2); !bytes.Equal(b, []byte{1, 2}) || r.End() != nil {
		t.Error(b, r.End())
	}
}

func TestReaderFail(t *testing.T) {
	r := varint.New([]byte{1, 2})
	r.Fail(nil)
	if n := r.Number(); n != 1 || r.Err() != nil {
		t.Error("no error was taken for one", n, r.Err())
	}
	own := errors.New("own")
	r.Fail(own)
	nothingLeft(t, r, own)
	r.Fail(nil)
	nothingLeft(t, r, own)
}

func TestReaderIsNil(t *testing.T) {
	var r *varint.Reader
	nothingLeft(t, r, api.ErrNone)
	r.Fail(nil)
	nothingLeft(t, r, api.ErrNone)
}

func TestReaderSharesNothing(t *testing.T) {
	b := []byte{2, 'a', 'b', 'c', 'd', 1, 5}
	r := varint.New(b)
	clear(b)
	s := r.Text(2)
	if string(s) != "ab" {
		t.Fatal("what was handed in is kept", s)
	}
	f := r.Fixed(2)
	if string(f) != "cd" {
		t.Fatal(f)
	}
	// What stands behind an answer must not be the reader's memory either.
	_ = append(s, 9, 9, 9)
	_ = append(f, 9, 9, 9)
	if l := r.List(1); !slices.Equal(l, []uint64{5}) || r.End() != nil {
		t.Error(l, r.End())
	}
	if string(s) != "ab" || string(f) != "cd" {
		t.Error(s, f)
	}
	b = []byte{1, 2, 3}
	varint.New(b).Fixed(3)[0] = 9
	if !bytes.Equal(b, []byte{1, 2, 3}) {
		t.Error("what was handed in is changed", b)
	}
}

// plain is a reader as the chapter tells it, told once more: one call, one answer.
type plain struct {
	left []byte
	err  error
}

func (p *plain) number() uint64 {
	if p.err != nil {
		return 0
	}
	n, size := binary.Uvarint(p.left)
	if size <= 0 || !bytes.Equal(binary.AppendUvarint(nil, n), p.left[:size]) {
		p.err = api.ErrForm
		return 0
	}
	p.left = p.left[size:]
	return n
}

func (p *plain) within(most uint64) int {
	n := p.number()
	if p.err == nil && (n > most || n > 1<<62) {
		p.err = api.ErrRange
	}
	if p.err != nil {
		return 0
	}
	return int(n)
}

func (p *plain) many(most int) int {
	n := p.number()
	if p.err == nil && (most < 0 || n > uint64(most)) {
		p.err = api.ErrLong
	}
	return int(n)
}

func (p *plain) fixed(many int) []byte {
	if p.err == nil && (many < 0 || many > len(p.left)) {
		p.err = api.ErrForm
	}
	if p.err != nil {
		return nil
	}
	b := p.left[:many]
	p.left = p.left[many:]
	return b
}

func (p *plain) list(most int) []uint64 {
	var l []uint64
	for n := p.many(most); n > 0 && p.err == nil; n-- {
		l = append(l, p.number())
	}
	if p.err != nil {
		return nil
	}
	return l
}

func (p *plain) rest() int {
	if p.err != nil {
		return 0
	}
	return len(p.left)
}

func (p *plain) end() error {
	if p.err == nil && len(p.left) > 0 {
		return api.ErrForm
	}
	return p.err
}

// P1.1: all calls, in any order.
func TestReaderInAnyOrder(t *testing.T) {
	r := rand.New(rand.NewSource(4))
	for range 20000 {
		b := make([]byte, r.Intn(40))
		for i := range b {
			b[i] = byte(r.Intn(256) >> r.Intn(8))
		}
		x, p := varint.New(b), &plain{left: bytes.Clone(b)}
		for range 12 {
			most, same := r.Intn(12)-1, true
			switch r.Intn(7) {
			case 0:
				same = x.Number() == p.number()
			case 1:
				same = x.Within(uint64(most)) == p.within(uint64(most))
			case 2:
				n := p.many(most)
				same = bytes.Equal(x.Text(most), p.fixed(n))
			case 3:
				same = slices.Equal(x.List(most), p.list(most))
			case 4:
				same = bytes.Equal(x.Fixed(most), p.fixed(most))
			case 5:
				same = x.End() == p.end()
			case 6:
				if most == 0 {
					x.Fail(api.ErrState)
					if p.err == nil {
						p.err = api.ErrState
					}
				}
			}
			if !same || x.Left() != p.rest() || x.Err() != p.err || x.End() != p.end() {
				t.Fatalf("of %v: left %d, error %v, want %d, %v", b, x.Left(), x.Err(), p.rest(), p.err)
			}
		}
	}
}
