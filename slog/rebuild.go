package slog

import (
	"cmp"
	"slices"

	"holdfast/api"
	"holdfast/cell"
	"holdfast/proj"
	"holdfast/record"
	"holdfast/unit"
)

// rebuilding is a cluster on the way from its projection to what follows that.
type rebuilding struct {
	*Cluster
	follows proj.Projection
	stay    []int // the units of both
	mark    int
	next    int // the address behind what was found so far
}

// Rebuild goes on without the units that aren't able.
func (c *Cluster) Rebuild(spares ...int) error {
	if c == nil {
		return api.ErrNone
	}
	if slices.ContainsFunc(spares, c.missing) {
		return api.ErrRange
	}
	able, dead := c.parted()
	epoch, err := c.later(able)
	if err != nil {
		return err
	}
	follows, err := proj.Next(c.projection, dead, spares)
	if err != nil {
		return err
	}
	// Not the one that follows the projection's: a unit that is able may have a later one.
	follows.Epoch = epoch
	stay := slices.DeleteFunc(proj.Units(c.projection), c.unable)
	mark := greatest(stay, c.low)
	r := &rebuilding{Cluster: c, follows: follows, stay: stay, mark: mark, next: mark}
	return r.all()
}

// parted is the units that are able, and those that aren't.
func (c *Cluster) parted() (able, dead []int) {
	for u := range c.places {
		if c.Able(u) {
			able = append(able, u)
		} else {
			dead = append(dead, u)
		}
	}
	return able, dead
}

// all does the whole rebuilding.
func (r *rebuilding) all() error {
	units := proj.Units(r.follows)
	come := slices.DeleteFunc(slices.Clone(units), r.stays)
	if err := each(units, r.seal); err != nil {
		return err
	}
	if err := each(come, r.empty); err != nil {
		return err
	}
	trim := r.doing(record.Act{Kind: record.Trim, Epoch: r.follows.Epoch, Address: r.mark})
	if err := each(units, trim); err != nil {
		return err
	}
	for _, chain := range r.follows.Chains {
		if err := r.share(chain); err != nil {
			return err
		}
	}
	return r.become(r.follows, r.next)
}

// stays tells whether a unit stays.
func (r *rebuilding) stays(u int) bool { return slices.Contains(r.stay, u) }

// seal seals a unit; where that stays, its tail is the log's.
func (r *rebuilding) seal(u int) error {
	tail, err := r.places[u].do(record.Act{Kind: record.Seal, Epoch: r.follows.Epoch})
	if err != nil {
		return err
	}
	if r.stays(u) {
		r.next = max(r.next, tail)
	}
	return nil
}

// empty cuts all that a unit has, which may be what the log never had.
func (r *rebuilding) empty(u int) error {
	_, err := r.places[u].do(record.Act{Kind: record.Cut, Epoch: r.follows.Epoch, Address: r.low(u)})
	return err
}

// share puts what a unit of a chain has into those that don't have it.
func (r *rebuilding) share(chain []int) error {
	for _, e := range r.kept(chain) {
		err := each(chain, func(u int) error {
			there, err := r.places[u].read(r.follows.Epoch, e.Address)
			if err != nil || there.Kind != cell.Empty {
				return err
			}
			return r.places[u].put(r.follows.Epoch, e.Address, e.Cell)
		})
		if err != nil {
			return err
		}
	}
	return nil
}

// kept is the cells that the units that stay in a chain have, by their addresses, each as the first such unit has it.
func (r *rebuilding) kept(chain []int) []unit.Entry {
	var list []unit.Entry
	for _, u := range chain {
		if r.stays(u) {
			list = append(list, r.Unit(u).Entries()...)
		}
	}
	// Stable: of one address the first unit's cell is ahead, and is the one that Compact leaves.
	slices.SortStableFunc(list, func(a, b unit.Entry) int { return cmp.Compare(a.Address, b.Address) })
	return slices.CompactFunc(list, func(a, b unit.Entry) bool { return a.Address == b.Address })
}
