package manifest

import (
	"holdfast/api"
	"holdfast/segment"
	"holdfast/sha"
)

const maxSize = 1 << 16 // bytes of a segment

// Part tells of a segment.
type Part struct {
	First, Many, Size int
	Sum               sha.Digest
}

// Of is a segment's part, and its bytes.
func Of(s segment.Segment) (Part, []byte, error) {
	b, err := segment.Put(s)
	if err != nil {
		return Part{}, nil, err
	}
	if len(s.Cells) == 0 {
		return Part{}, nil, api.ErrForm
	}
	return Part{First: s.First, Many: len(s.Cells), Size: len(b), Sum: sha.Sum(b)}, b, nil
}

// Holds is the segment of bytes that a part tells of.
func Holds(p Part, b []byte) (segment.Segment, error) {
	if len(b) != p.Size || sha.Sum(b) != p.Sum {
		return segment.Segment{}, api.ErrSum
	}
	s, err := segment.Take(b)
	if err != nil {
		return segment.Segment{}, err
	}
	if s.First != p.First || len(s.Cells) != p.Many {
		return segment.Segment{}, api.ErrForm
	}
	return s, nil
}

// checkPart asks whether it is a part that begins at an address.
func checkPart(p Part, first int) error {
	if !within(p.Many, 1, api.MaxPart) || !within(p.Size, 1, maxSize) {
		return api.ErrRange
	}
	if p.First != first {
		return api.ErrForm
	}
	return nil
}

// has tells whether an address is one of a part's.
func has(p Part, address int) bool {
	// By the place, and not by where it ends, which is below its first address where numbers wrap around.
	place := address - p.First
	return place >= 0 && place < p.Many
}
