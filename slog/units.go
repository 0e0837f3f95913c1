package slog

import (
	"holdfast/api"
	"holdfast/cell"
	"holdfast/proj"
	"holdfast/record"
)

// within tells whether a number is from least to most.
func within(n, least, most int) bool { return n >= least && n <= most }

// each does something with units, one behind the other, up to the first error.
func each(units []int, do func(u int) error) error {
	for _, u := range units {
		if err := do(u); err != nil {
			return err
		}
	}
	return nil
}

// takes asks whether a call is done with a number that may be from 0 to most.
func (c *Cluster) takes(n, most int) error {
	if c == nil {
		return api.ErrNone
	}
	if !within(n, 0, most) {
		return api.ErrRange
	}
	return nil
}

// at is where a unit is.
func (c *Cluster) at(u int) (*place, error) {
	if c == nil {
		return nil, api.ErrNone
	}
	if c.missing(u) {
		return nil, api.ErrRange
	}
	return &c.places[u], nil
}

// missing tells whether there is no such unit.
func (c *Cluster) missing(u int) bool { return !within(u, 0, len(c.places)-1) }

// unable tells whether a unit isn't able.
func (c *Cluster) unable(u int) bool { return !c.Able(u) }

// home is the chain of an address, which is one.
func (c *Cluster) home(address int) []int {
	chains := c.projection.Chains
	return chains[address%len(chains)]
}

// doing is what does an act to a unit.
func (c *Cluster) doing(a record.Act) func(u int) error {
	return func(u int) error {
		_, err := c.places[u].do(a)
		return err
	}
}

// putInto puts a cell into units, and raises the sequencer to the address behind.
func (c *Cluster) putInto(units []int, address int, x cell.Cell) error {
	epoch := c.projection.Epoch
	err := each(units, func(u int) error { return c.places[u].put(epoch, address, x) })
	if err != nil {
		return err
	}
	return c.sequencer.Raise(epoch, address+1)
}

// low is the low mark of a unit that is on.
func (c *Cluster) low(u int) int { return c.Unit(u).Low() }

// epoch is the epoch of a unit that is on.
func (c *Cluster) epoch(u int) int { return c.places[u].shelf.Epoch() }

// greatest is the greatest number of these units, of those that are told.
func greatest(units []int, told func(u int) int) int {
	most := 0
	for _, u := range units {
		most = max(most, told(u))
	}
	return most
}

// later is the epoch that is 1 more than the greatest one of the projection, and of these units.
func (c *Cluster) later(units []int) (int, error) {
	epoch := max(c.projection.Epoch, greatest(units, c.epoch)) + 1
	if epoch > api.MaxEpoch {
		return 0, api.ErrFull
	}
	return epoch, nil
}

// become gives the cluster a projection of a later epoch, and the next address.
func (c *Cluster) become(p proj.Projection, next int) error {
	c.projection = p
	return c.sequencer.Set(p.Epoch, next)
}
