package record

import (
	"holdfast/api"
	"holdfast/cell"
	"holdfast/frame"
	"holdfast/unit"
	"holdfast/varint"
)

const maxEntries = 1 << 16

// PutUnit is a unit's bytes.
func PutUnit(u *unit.Unit) ([]byte, error) {
	if u == nil {
		return nil, api.ErrNone
	}
	list := u.Entries()
	text := varint.Put(nil, uint64(u.Epoch()), uint64(u.Low()), uint64(len(list)))
	first := u.Low()
	for _, e := range list {
		own, err := cell.Put(varint.Put(nil, uint64(e.Address-first)), e.Cell)
		if err != nil {
			return nil, err
		}
		text = append(text, own...)
		first = e.Address + 1
	}
	return frame.Put(nil, text)
}

// TakeUnit is the unit of bytes.
func TakeUnit(b []byte) (*unit.Unit, error) {
	text, err := frame.One(b)
	if err != nil {
		return nil, err
	}
	r := varint.New(text)
	epoch := r.Within(api.MaxEpoch)
	low := r.Within(api.MaxAddress)
	list := takeEntries(r, low)
	if err := r.End(); err != nil {
		return nil, err
	}
	// All that is left to find is cells that no entry has: these are told last.
	return unit.Of(epoch, low, list)
}

// takeEntries takes a unit's entries; an error is the reader's.
func takeEntries(r *varint.Reader, low int) []unit.Entry {
	var list []unit.Entry
	first := low
	// Room is not made ahead: what the bytes say that follows need not be there.
	for range takeMany(r) {
		address := takeAddress(r, first)
		c := cell.Take(r)
		if r.Err() != nil {
			return nil
		}
		list = append(list, unit.Entry{Address: address, Cell: c})
		first = address + 1
	}
	return list
}

// takeMany takes how many entries follow.
func takeMany(r *varint.Reader) int {
	n := r.Number()
	if n > maxEntries {
		r.Fail(api.ErrLong)
		return 0
	}
	return int(n)
}

// takeAddress takes an address; first is the first one that it might have, or, if none is left, the one behind the last.
func takeAddress(r *varint.Reader, first int) int {
	behind := r.Number()
	if behind >= uint64(api.MaxAddress-first) {
		r.Fail(api.ErrRange)
		return 0
	}
	return first + int(behind)
}
