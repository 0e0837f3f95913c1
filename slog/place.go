package slog

import (
	"holdfast/api"
	"holdfast/cell"
	"holdfast/disk"
	"holdfast/record"
	"holdfast/shelf"
)

// place is where a unit is.
type place struct {
	disk  *disk.Disk
	shelf *shelf.Shelf // nil, if the unit is off
}

// newPlace is that of a new unit, which is on.
func newPlace(room int) (place, error) {
	d, err := disk.New(room)
	if err != nil {
		return place{}, err
	}
	s, err := shelf.Open(d)
	if err != nil {
		return place{}, err
	}
	if _, err := s.Do(record.Act{Kind: record.Seal, Epoch: firstEpoch}); err != nil {
		return place{}, err
	}
	return place{disk: d, shelf: s}, nil
}

func (p *place) on() bool { return p.shelf != nil }

func (p *place) able() bool { return p.on() && !p.shelf.Broken() && !p.disk.Down() }

// do does an act.
func (p *place) do(a record.Act) (int, error) {
	if !p.on() {
		return 0, api.ErrDown
	}
	return p.shelf.Do(a)
}

// read is a cell.
func (p *place) read(epoch, address int) (cell.Cell, error) {
	if !p.on() {
		return cell.Cell{}, api.ErrDown
	}
	return p.shelf.Read(epoch, address)
}

// put puts a cell, which is data or a hole.
func (p *place) put(epoch, address int, x cell.Cell) error {
	if x.Kind == cell.Hole {
		_, err := p.do(record.Act{Kind: record.Fill, Epoch: epoch, Address: address})
		return err
	}
	_, err := p.do(record.Act{Kind: record.Write, Epoch: epoch, Address: address, Data: x.Data})
	if err == api.ErrWritten && p.has(epoch, address, x) {
		return nil
	}
	return err
}

// has tells whether a cell is there. The unit itself is asked: what it has is there without power, too.
func (p *place) has(epoch, address int, x cell.Cell) bool {
	there, err := p.shelf.Unit().Read(epoch, address)
	return err == nil && cell.Same(there, x)
}
