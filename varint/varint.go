// Package varint is layer 1: numbers in as few bytes as tell them. See shared/doc/01-varint.md.
package varint

import (
	"bytes"
	"math/bits"

	"holdfast/api"
)

const (
	groupBits = 7
	more      = 1 << groupBits // set in each byte of a number but its last one
	maxSize   = 10
	maxTop    = 1 // the tenth group: nine of them leave one bit of the 64
	maxWithin = 1 << 62
)

// Put is bytes, and numbers behind them.
func Put(b []byte, list ...uint64) []byte {
	// A copy even where no number comes: the answer shares nothing with b.
	out := bytes.Clone(b)
	for i := range len(list) {
		out = putGroups(out, list[i])
	}
	return out
}

// putGroups writes behind own, which must be memory that only the answer has.
func putGroups(own []byte, n uint64) []byte {
	for n >= more {
		own = append(own, byte(n)|more)
		n >>= groupBits
	}
	return append(own, byte(n))
}

// Size is how many bytes a number has.
func Size(n uint64) int {
	// 0 has no bits, but one group.
	return max(1, (bits.Len64(n)+groupBits-1)/groupBits)
}

// Take is the number that bytes begin with.
func Take(b []byte) (uint64, int, error) {
	var n uint64
	for i := range min(len(b), maxSize) {
		n |= uint64(b[i]&^more) << (groupBits * i)
		if b[i] >= more {
			continue
		}
		if !ends(i, b[i]) {
			break
		}
		return n, i + 1, nil
	}
	return 0, 0, api.ErrForm
}

// ends tells whether a group may be the last one at its place, so that no second row of bytes tells a number, and none tells more than 64 bits.
func ends(place int, group byte) bool {
	if place == maxSize-1 && group > maxTop {
		return false
	}
	return place == 0 || group != 0
}

// PutText is bytes, and a text behind them.
func PutText(b, text []byte) []byte {
	return append(Put(b, uint64(len(text))), text...)
}

// PutList is bytes, and a list behind them.
func PutList(b []byte, list []uint64) []byte {
	out := Put(b, uint64(len(list)))
	for i := range len(list) {
		out = putGroups(out, list[i])
	}
	return out
}

// Zigzag is a signed number's number.
func Zigzag(n int64) uint64 {
	if n < 0 {
		// -2 n - 1, without a step that int64 has no room for.
		return ^(uint64(n) << 1)
	}
	return uint64(n) << 1
}

// Zagzig is a number's signed number.
func Zagzig(u uint64) int64 {
	half := int64(u >> 1)
	if u&1 == 1 {
		return ^half
	}
	return half
}

// Reader reads bytes.
type Reader struct {
	row   []byte
	place int
	err   error
}

// New is a reader of bytes.
func New(b []byte) *Reader {
	// A copy: who handed b in may change it while it is read.
	return &Reader{row: bytes.Clone(b)}
}

// Number takes a number.
func (r *Reader) Number() uint64 {
	if r.Err() != nil {
		return 0
	}
	n, size, err := Take(r.row[r.place:])
	r.place += size
	r.Fail(err)
	return n
}

// Within takes a number up to another one.
func (r *Reader) Within(most uint64) int {
	n := r.Number()
	if n > min(most, maxWithin) {
		r.Fail(api.ErrRange)
		return 0
	}
	return int(n)
}

// Text takes a text.
func (r *Reader) Text(most int) []byte {
	return r.Fixed(r.many(most))
}

// many takes how many things follow.
func (r *Reader) many(most int) int {
	n := r.Number()
	if most < 0 || n > uint64(most) {
		r.Fail(api.ErrLong)
		return 0
	}
	return int(n)
}

// List takes a list.
func (r *Reader) List(most int) []uint64 {
	var list []uint64
	// Room is not made ahead: what the bytes say that follows need not be there.
	for range r.many(most) {
		n := r.Number()
		if r.Err() != nil {
			return nil
		}
		list = append(list, n)
	}
	return list
}

// Fixed takes so many bytes.
func (r *Reader) Fixed(many int) []byte {
	if many < 0 || many > r.Left() {
		r.Fail(api.ErrForm)
	}
	if r.Err() != nil {
		return nil
	}
	text := bytes.Clone(r.row[r.place : r.place+many])
	r.place += many
	return text
}

// Fail is an error.
func (r *Reader) Fail(err error) {
	if r == nil || r.err != nil || err == nil {
		return
	}
	r.err = err
}

// Left is how many bytes are left.
func (r *Reader) Left() int {
	if r.Err() != nil {
		return 0
	}
	return len(r.row) - r.place
}

// Err is the error.
func (r *Reader) Err() error {
	if r == nil {
		return api.ErrNone
	}
	return r.err
}

// End is the error at the end.
func (r *Reader) End() error {
	if r.Left() > 0 {
		return api.ErrForm
	}
	return r.Err()
}
