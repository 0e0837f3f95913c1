package proj

import (
	"holdfast/api"
	"holdfast/frame"
	"holdfast/varint"
)

// Put is a projection's bytes.
func Put(p Projection) ([]byte, error) {
	if err := Check(p); err != nil {
		return nil, err
	}
	text := varint.Put(nil, uint64(p.Epoch), uint64(len(p.Chains)))
	for _, chain := range p.Chains {
		text = varint.PutList(text, numbersOf(chain))
	}
	return frame.Put(nil, text)
}

// Take is the projection of bytes.
func Take(b []byte) (Projection, error) {
	text, err := frame.One(b)
	if err != nil {
		return Projection{}, err
	}
	r := varint.New(text)
	p := Projection{Epoch: r.Within(api.MaxEpoch)}
	for range takeMany(r) {
		p.Chains = append(p.Chains, unitsOf(r.List(maxChain)))
	}
	if err := r.End(); err != nil {
		return Projection{}, err
	}
	if err := Check(p); err != nil {
		return Projection{}, err
	}
	return p, nil
}

// takeMany takes how many chains follow.
func takeMany(r *varint.Reader) int {
	n := r.Number()
	if n > api.MaxChains {
		r.Fail(api.ErrLong)
		return 0
	}
	return int(n)
}

func numbersOf(units []int) []uint64 {
	var list []uint64
	for _, unit := range units {
		list = append(list, uint64(unit))
	}
	return list
}

// unitsOf is numbers as units; one that is too great for an int comes to one below 0, and so to no unit either.
func unitsOf(numbers []uint64) []int {
	var list []int
	for _, n := range numbers {
		list = append(list, int(n))
	}
	return list
}
