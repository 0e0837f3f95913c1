package chain_test

import (
	"crypto/sha256"
	"encoding/binary"
	"fmt"
	"hash/crc32"
	"math"
	"math/rand"
	"slices"
	"strings"

	"holdfast/api"
	"holdfast/manifest"
	"holdfast/sha"
)

const (
	addresses = 1 << 20
	numbers   = 1000000
	most      = 64    // cells of a part
	mostParts = 1024  // parts of a manifest
	mostSize  = 65536 // bytes of a part
)

var none = sha.Digest{}

// sumOf is a text's digest by the library.
func sumOf(text string) sha.Digest { return sha256.Sum256([]byte(text)) }

// number is numbers' bytes by the library.
func number(list ...int) string {
	var b []byte
	for _, n := range list {
		b = binary.AppendUvarint(b, uint64(n))
	}
	return string(b)
}

// digestOf is a manifest's digest by the library.
func digestOf(m manifest.Manifest) sha.Digest {
	parts := []string{number(m.Number, m.From, m.To, m.Trim), string(m.Prev[:]), number(len(m.Parts))}
	for _, p := range m.Parts {
		parts = append(parts, number(p.Many, p.Size), string(p.Sum[:]))
	}
	text := strings.Join(parts, "")
	b := []byte(number(len(text)) + text)
	return sumOf(string(binary.BigEndian.AppendUint32(b, crc32.Checksum(b, crc32.MakeTable(crc32.Castagnoli)))))
}

// row is parts one behind the other, from an address on, of so many cells each.
func row(from int, sizes ...int) []manifest.Part {
	var list []manifest.Part
	for i, many := range sizes {
		list = append(list, manifest.Part{First: from, Many: many, Size: 5*i + 7, Sum: sumOf(fmt.Sprint("part ", from))})
		from += many
	}
	return list
}

// total is how many cells there are in all.
func total(sizes []int) int {
	sum := 0
	for _, many := range sizes {
		sum += many
	}
	return sum
}

// behind is a list and one more manifest, which follows it, with such a mark and such parts; it may be no manifest, or not follow.
func behind(list []manifest.Manifest, trim int, sizes ...int) []manifest.Manifest {
	m := manifest.Manifest{Number: len(list), Trim: trim}
	if len(list) > 0 {
		ahead := list[len(list)-1]
		m.From, m.Prev = ahead.To, digestOf(ahead)
	}
	m.To, m.Parts = m.From+total(sizes), row(m.From, sizes...)
	return append(slices.Clip(list), m)
}

// from is a chain of one manifest, which begins at an address.
func from(address, trim int, sizes ...int) []manifest.Manifest {
	return []manifest.Manifest{{From: address, To: address + total(sizes), Trim: trim, Parts: row(address, sizes...)}}
}

// four is a chain of four manifests, from 5 to 85: one has no parts, and two have the same mark.
func four() []manifest.Manifest {
	list := from(5, 2, 3, 64)
	list = behind(list, 7)
	list = behind(list, 7, 1, 2, 3)
	return behind(list, 90, 7)
}

// copied is a list apart.
func copied(list []manifest.Manifest) []manifest.Manifest {
	var all []manifest.Manifest
	for _, m := range list {
		m.Parts = slices.Clone(m.Parts)
		all = append(all, m)
	}
	return all
}

// but is a list of which one manifest is otherwise; what follows it has its old digest.
func but(list []manifest.Manifest, place int, change func(m *manifest.Manifest)) []manifest.Manifest {
	list = copied(list)
	change(&list[place])
	return list
}

// linked is a list in which each one has the digest of the one ahead, whatever else is wrong.
func linked(list []manifest.Manifest) []manifest.Manifest {
	list = copied(list)
	for i := range list {
		if i > 0 {
			list[i].Prev = digestOf(list[i-1])
		}
	}
	return list
}

// show is a manifest as it is meant: an empty list is none.
func show(m manifest.Manifest) string {
	parts := make([]string, len(m.Parts))
	for i, p := range m.Parts {
		parts[i] = fmt.Sprintf("[%d, %d cells, %d bytes, %x]", p.First, p.Many, p.Size, p.Sum)
	}
	return fmt.Sprintf("%d: %d to %d, trim %d, ahead %x, %d parts: ", m.Number, m.From, m.To, m.Trim, m.Prev, len(parts)) + strings.Join(parts, " ")
}

// showAll is a list as it is meant.
func showAll(list []manifest.Manifest) string {
	texts := make([]string, len(list))
	for i, m := range list {
		texts[i] = show(m)
	}
	return fmt.Sprintln(len(list), "manifests") + strings.Join(texts, "\n")
}

// brief is so much of what is shown as may be read.
func brief(list []manifest.Manifest) string { return fmt.Sprintf("%.1500s", showAll(list)) }

// nothing is what stands beside an error.
var nothing = show(manifest.Manifest{})

// plainCheck is Check as the chapter tells it, told once more.
func plainCheck(list []manifest.Manifest) (int, error) {
	for i, m := range list {
		if err := manifest.Check(m); err != nil {
			return i, err
		}
		if i == 0 {
			if m.Number != 0 {
				return 0, api.ErrChain
			}
			continue
		}
		ahead := list[i-1]
		switch {
		case m.Number != ahead.Number+1:
			return i, api.ErrChain
		case m.From != ahead.To:
			return i, api.ErrChain
		case m.Prev != digestOf(ahead):
			return i, api.ErrChain
		case m.Trim < ahead.Trim:
			return i, api.ErrChain
		}
	}
	return len(list), nil
}

// plainNext is Next as the chapter tells it, told once more.
func plainNext(list []manifest.Manifest, from, trim int, parts []manifest.Part) (manifest.Manifest, error) {
	if _, err := plainCheck(list); err != nil {
		return manifest.Manifest{}, err
	}
	m := manifest.Manifest{From: from, To: from, Trim: trim, Parts: parts}
	if n := len(list); n > 0 {
		ahead := list[n-1]
		if from != ahead.To || trim < ahead.Trim {
			return manifest.Manifest{}, api.ErrChain
		}
		m.Number, m.Prev = ahead.Number+1, digestOf(ahead)
	}
	for _, p := range parts {
		m.To = p.First + p.Many
	}
	if err := manifest.Check(m); err != nil {
		return manifest.Manifest{}, err
	}
	return m, nil
}

// wrongMarks is numbers that are no From, To or trim mark.
func wrongMarks() []int {
	return []int{-1, -64, addresses + 1, 1 << 21, 1 << 32, 1<<32 + 1, 1 << 62, math.MinInt, math.MinInt + 1, math.MaxInt - 1, math.MaxInt}
}

// wrongNumbers is numbers of no manifest.
func wrongNumbers() []int {
	return []int{-1, -2, numbers, numbers + 1, 1 << 20, 1 << 32, 1<<32 + 1, math.MinInt, math.MaxInt}
}

func pick[T any](r *rand.Rand, list ...T) T { return list[r.Intn(len(list))] }

// drawSizes is how many cells up to so many parts have.
func drawSizes(r *rand.Rand, parts int) []int {
	sizes := make([]int, r.Intn(parts+1))
	for i := range sizes {
		sizes[i] = pick(r, 1, most, 1+r.Intn(most))
	}
	return sizes
}

// drawChain is a chain of up to so many manifests.
func drawChain(r *rand.Rand, manifests int) []manifest.Manifest {
	if r.Intn(20) == 0 {
		return nil
	}
	trim := pick(r, 0, 0, 1, r.Intn(500))
	list := from(pick(r, 0, 1, r.Intn(300), addresses/2), trim, drawSizes(r, 3)...)
	for range r.Intn(manifests) {
		trim += pick(r, 0, 0, 1, r.Intn(100))
		list = behind(list, trim, drawSizes(r, 3)...)
	}
	return list
}

// spoilOne changes something of a manifest.
func spoilOne(r *rand.Rand, m *manifest.Manifest) {
	near := r.Intn(3) - 1
	if len(m.Parts) > 0 && r.Intn(3) == 0 {
		p := &m.Parts[r.Intn(len(m.Parts))]
		switch r.Intn(4) {
		case 0:
			p.First += pick(r, near, near, 1<<32)
		case 1:
			p.Many = pick(r, p.Many+near, 0, -1, most+1, math.MaxInt)
		case 2:
			p.Size = pick(r, p.Size+near, 0, mostSize, mostSize+1)
		case 3:
			p.Sum[r.Intn(32)] ^= 1 << r.Intn(8)
		}
		return
	}
	switch r.Intn(7) {
	case 0:
		m.Number = pick(r, m.Number+near, m.Number+near, 0, pick(r, wrongNumbers()...))
	case 1:
		m.From = pick(r, m.From+near, pick(r, wrongMarks()...))
	case 2:
		m.To = pick(r, m.To+near, pick(r, wrongMarks()...))
	case 3:
		m.Trim = pick(r, m.Trim-1, m.Trim+near, 0, addresses, pick(r, wrongMarks()...))
	case 4:
		m.Prev = none
	case 5:
		m.Prev[r.Intn(32)] ^= 1 << r.Intn(8)
	case 6:
		// A manifest still, elsewhere.
		m.From, m.To = m.From+near, m.To+near
		for i := range m.Parts {
			m.Parts[i].First += near
		}
	}
}

// drawAny is anything that may be handed in as a chain, most often nearly one.
func drawAny(r *rand.Rand) []manifest.Manifest {
	list := drawChain(r, 6)
	for range pick(r, 0, 0, 1, 1, 2) {
		if len(list) == 0 {
			continue
		}
		place := r.Intn(len(list))
		switch r.Intn(6) {
		case 0:
			list = slices.Delete(slices.Clone(list), place, place+1)
		case 1:
			list = slices.Insert(slices.Clone(list), place, list[r.Intn(len(list))])
		case 2:
			other := r.Intn(len(list))
			list = slices.Clone(list)
			list[place], list[other] = list[other], list[place]
		default:
			list = but(list, place, func(m *manifest.Manifest) { spoilOne(r, m) })
		}
		if r.Intn(3) == 0 {
			list = linked(list)
		}
	}
	return list
}
