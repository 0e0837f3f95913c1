package proj_test

import (
	"encoding/binary"
	"fmt"
	"hash/crc32"
	"math"
	"math/rand"
	"slices"
	"strings"

	"holdfast/api"
	"holdfast/proj"
)

const (
	epochs    = 1 << 40
	addresses = 1 << 20
	longest   = 65536 // bytes of a frame's text
)

// of is a projection.
func of(epoch int, chains ...[]int) proj.Projection {
	return proj.Projection{Epoch: epoch, Chains: chains}
}

// chain is a list of units.
func chain(units ...int) []int { return units }

// show is a projection as it is meant: an empty list is none.
func show(p proj.Projection) string {
	return fmt.Sprint(p.Epoch, ": ", fmt.Sprint(p.Chains))
}

// number is numbers' bytes by the library.
func number(list ...uint64) string {
	var b []byte
	for _, n := range list {
		b = binary.AppendUvarint(b, n)
	}
	return string(b)
}

// framed is a text's frame by the library.
func framed(text string) []byte {
	b := []byte(number(uint64(len(text))) + text)
	return binary.BigEndian.AppendUint32(b, crc32.Checksum(b, crc32.MakeTable(crc32.Castagnoli)))
}

// meantText is the text of a projection's frame, told once more.
func meantText(p proj.Projection) string {
	text := number(uint64(p.Epoch), uint64(len(p.Chains)))
	for _, c := range p.Chains {
		text += number(uint64(len(c)))
		for _, u := range c {
			text += number(uint64(u))
		}
	}
	return text
}

// plainCheck is Check as the chapter tells it, told once more: sentence by sentence.
func plainCheck(p proj.Projection) error {
	if p.Epoch < 0 || p.Epoch > epochs {
		return api.ErrRange
	}
	if len(p.Chains) < 1 || len(p.Chains) > 4 {
		return api.ErrForm
	}
	for _, c := range p.Chains {
		if len(c) < 1 || len(c) > 4 {
			return api.ErrForm
		}
	}
	for _, c := range p.Chains {
		for _, u := range c {
			if u < 0 || u > 7 {
				return api.ErrRange
			}
		}
	}
	places := map[int]int{}
	for _, c := range p.Chains {
		for _, u := range c {
			places[u]++
			if places[u] > 1 {
				return api.ErrForm
			}
		}
	}
	return nil
}

// row is what is left of bytes, and the first thing that was wrong with them.
type row struct {
	left string
	err  error
}

func (r *row) fail(err error) {
	if r.err == nil {
		r.err = err
	}
}

// number takes one; above is the error of one above most.
func (r *row) number(most uint64, above error) uint64 {
	if r.err != nil {
		return 0
	}
	n, size := binary.Uvarint([]byte(r.left))
	if size <= 0 || number(n) != r.left[:size] {
		r.fail(api.ErrForm)
		return 0
	}
	r.left = r.left[size:]
	if n > most {
		r.fail(above)
		return 0
	}
	return n
}

func (r *row) fixed(many int) string {
	if many > len(r.left) {
		r.fail(api.ErrForm)
	}
	if r.err != nil {
		return ""
	}
	text := r.left[:many]
	r.left = r.left[many:]
	return text
}

func (r *row) end() error {
	if r.left != "" {
		r.fail(api.ErrForm)
	}
	return r.err
}

// unframed is the text of one frame.
func unframed(b []byte) *row {
	r := &row{left: string(b)}
	many := r.number(longest, api.ErrLong)
	if len(r.left) < int(many)+4 {
		r.fail(api.ErrForm)
	}
	text := r.fixed(int(many))
	sum := r.fixed(4)
	if r.err == nil && !strings.HasSuffix(string(framed(text)), sum) {
		r.fail(api.ErrSum)
	}
	return &row{left: text, err: r.end()}
}

// plainTake is Take as the chapter tells it, told once more.
func plainTake(b []byte) (proj.Projection, error) {
	r := unframed(b)
	var p proj.Projection
	p.Epoch = int(r.number(epochs, api.ErrRange))
	for range r.number(4, api.ErrLong) {
		var c []int
		for range r.number(4, api.ErrLong) {
			c = append(c, int(min(r.number(math.MaxUint64, nil), 8))) // 8 stands for all that is no unit
		}
		p.Chains = append(p.Chains, c)
	}
	if r.end() == nil {
		r.fail(plainCheck(p))
	}
	if r.err != nil {
		return proj.Projection{}, r.err
	}
	return p, nil
}

// plainNext is Next as the chapter tells it, told once more: unit by unit.
func plainNext(p proj.Projection, dead, spares []int) (proj.Projection, error) {
	if err := plainCheck(p); err != nil {
		return proj.Projection{}, err
	}
	for _, u := range slices.Concat(dead, spares) {
		if u < 0 || u > 7 {
			return proj.Projection{}, api.ErrRange
		}
	}
	if p.Epoch == epochs {
		return proj.Projection{}, api.ErrFull
	}
	used := map[int]int{} // dead, or in a chain of what was, or taken from the spares
	for _, u := range dead {
		used[u] = 1
	}
	next := of(p.Epoch + 1)
	for _, c := range p.Chains {
		var stays []int
		for _, u := range c {
			if !slices.Contains(dead, u) {
				stays = append(stays, u)
			}
			used[u] = 1
		}
		if stays == nil {
			return proj.Projection{}, api.ErrState
		}
		next.Chains = append(next.Chains, stays)
	}
	for i := range next.Chains {
		for _, u := range spares {
			if len(next.Chains[i]) == len(p.Chains[i]) {
				break
			}
			if used[u] == 0 {
				next.Chains[i] = append(next.Chains[i], u)
				used[u] = 1
			}
		}
	}
	return next, nil
}

// wrongUnits is numbers that are no units.
func wrongUnits() []int {
	return []int{-1, 8, 9, 127, 128, 255, 256, 256 + 3, 1 << 32, 1<<32 + 3, math.MinInt, math.MinInt + 3, math.MaxInt}
}

// epochsAround is what is meant, its edges, and what lies beyond.
func epochsAround() []int {
	return []int{0, 1, 127, 128, epochs - 1, epochs, -1, epochs + 1, 1 << 41, math.MinInt, math.MaxInt}
}

// layouts is all chains of units of 0 to most: every way to lay some of them in some chains, in every order.
func layouts(most, chains, size int) [][][]int {
	var all [][][]int
	for many := 1; many <= chains; many++ {
		lay(make([][]int, many), 0, most, size, &all)
	}
	return all
}

// lay fills chains from the place of one on, and keeps each that has at least one unit in each.
func lay(chains [][]int, place, most, size int, all *[][][]int) {
	if place == len(chains) {
		kept := make([][]int, len(chains))
		for i, c := range chains {
			kept[i] = slices.Clone(c)
		}
		*all = append(*all, kept)
		return
	}
	if len(chains[place]) > 0 {
		lay(chains, place+1, most, size, all)
	}
	if len(chains[place]) == size {
		return
	}
	for u := range most + 1 {
		if slices.Contains(slices.Concat(chains...), u) {
			continue
		}
		chains[place] = append(chains[place], u)
		lay(chains, place, most, size, all)
		chains[place] = chains[place][:len(chains[place])-1]
	}
}

// rows is all rows of these numbers up to a length.
func rows(numbers []int, longest int) [][]int {
	all, from := [][]int{nil}, 0
	for range longest {
		till := len(all)
		for _, head := range all[from:till] {
			for _, n := range numbers {
				all = append(all, append(slices.Clone(head), n))
			}
		}
		from = till
	}
	return all
}

func pick[T any](r *rand.Rand, list ...T) T { return list[r.Intn(len(list))] }

// draw is a projection.
func draw(r *rand.Rand) proj.Projection {
	units := r.Perm(8)
	p := of(pick(r, 0, 1, r.Intn(300), r.Intn(epochs), epochs-1, epochs))
	many := 1 + r.Intn(4)
	for i := range many {
		left := many - 1 - i // one unit at least for each chain that follows
		size := 1 + r.Intn(min(4, len(units)-left))
		p.Chains = append(p.Chains, slices.Clone(units[:size]))
		units = units[size:]
	}
	return p
}

// drawAny is anything that may be handed in as a projection, most often nearly one.
func drawAny(r *rand.Rand) proj.Projection {
	p := draw(r)
	for range r.Intn(3) {
		at := r.Intn(len(p.Chains) + 1)
		switch r.Intn(6) {
		case 0:
			p.Epoch = pick(r, epochsAround()...)
		case 1:
			p.Chains = slices.Insert(p.Chains, at, drawUnits(r, 5, 20))
		case 2:
			p.Chains = p.Chains[:at]
		default:
			if at < len(p.Chains) {
				p.Chains[at] = append(p.Chains[at], drawUnits(r, 2, 10)...)
			}
		}
	}
	return p
}

// drawUnits is up to so many numbers, of which one in so many is no unit.
func drawUnits(r *rand.Rand, many, rare int) []int {
	var list []int
	for range r.Intn(many + 1) {
		u := r.Intn(8)
		if r.Intn(rare) == 0 {
			u = pick(r, wrongUnits()...)
		}
		list = append(list, u)
	}
	return list
}

// spoil changes a few bytes.
func spoil(r *rand.Rand, text string) string {
	b := []byte(text)
	for range r.Intn(3) {
		switch at := r.Intn(len(b) + 1); r.Intn(4) {
		case 0:
			b = b[:at]
		case 1:
			b = slices.Insert(b, at, byte(r.Intn(256)>>r.Intn(9)))
		case 2:
			b = slices.Delete(b, at, min(at+1+r.Intn(3), len(b)))
		case 3:
			if at < len(b) {
				b[at] = byte(r.Intn(256) >> r.Intn(9))
			}
		}
	}
	return string(b)
}
