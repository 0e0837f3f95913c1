package manifest

import (
	"holdfast/api"
	"holdfast/frame"
	"holdfast/sha"
	"holdfast/varint"
)

// Put is a manifest's bytes.
func Put(m Manifest) ([]byte, error) {
	if err := Check(m); err != nil {
		return nil, err
	}
	text := varint.Put(nil, uint64(m.Number), uint64(m.From), uint64(m.To), uint64(m.Trim))
	text = append(text, m.Prev[:]...)
	text = varint.Put(text, uint64(len(m.Parts)))
	for _, p := range m.Parts {
		// A part's own numbers first: varint.Put copies all that it puts something behind.
		text = append(text, varint.Put(nil, uint64(p.Many), uint64(p.Size))...)
		text = append(text, p.Sum[:]...)
	}
	return frame.Put(nil, text)
}

// Take is the manifest of bytes.
func Take(b []byte) (Manifest, error) {
	text, err := frame.One(b)
	if err != nil {
		return Manifest{}, err
	}
	r := varint.New(text)
	var m Manifest
	m.Number = r.Within(maxNumber)
	m.From = r.Within(api.MaxAddress)
	m.To = r.Within(api.MaxAddress)
	m.Trim = r.Within(api.MaxAddress)
	m.Prev = takeDigest(r)
	m.Parts = takeParts(r, m.From)
	if err := r.End(); err != nil {
		return Manifest{}, err
	}
	if err := Check(m); err != nil {
		return Manifest{}, err
	}
	return m, nil
}

// Digest is a manifest's digest.
func Digest(m Manifest) (sha.Digest, error) {
	b, err := Put(m)
	if err != nil {
		return sha.Digest{}, err
	}
	return sha.Sum(b), nil
}

// takeParts takes the parts, of which the first one begins at an address; what they begin at isn't told in the bytes.
func takeParts(r *varint.Reader, first int) []Part {
	var parts []Part
	for range takeMany(r) {
		p := Part{First: first}
		p.Many = r.Within(api.MaxPart)
		p.Size = r.Within(maxSize)
		p.Sum = takeDigest(r)
		if r.Err() != nil {
			return nil
		}
		parts = append(parts, p)
		first += p.Many
	}
	return parts
}

// takeMany takes how many parts follow.
func takeMany(r *varint.Reader) int {
	n := r.Number()
	if n > maxParts {
		r.Fail(api.ErrLong)
		return 0
	}
	return int(n)
}

// takeDigest takes a digest.
func takeDigest(r *varint.Reader) sha.Digest {
	var d sha.Digest
	copy(d[:], r.Fixed(len(d)))
	return d
}
