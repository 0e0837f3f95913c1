package vault_test

import (
	"math/rand"
	"testing"

	"holdfast/api"
	"holdfast/disk"
	"holdfast/segment"
)

func pick[T any](r *rand.Rand, list ...T) T { return list[r.Intn(len(list))] }

// random is a pair to which anything is done.
type random struct {
	*pair
	r        *rand.Rand
	segments []segment.Segment // those that were added for the manifest that follows, one behind the other
	commits  int
	refused  map[error]int
}

// next is where the next segment begins.
func (x *random) next() int {
	if n := len(x.segments); n > 0 {
		return segment.End(x.segments[n-1])
	}
	if n := len(x.p.list); n > 0 {
		return x.p.list[n-1].To
	}
	return 5
}

func (x *random) tell(err error) {
	if err != nil {
		x.refused[err]++
	}
}

// addAny adds a segment, most often one that can be.
func (x *random) addAny() {
	number, place, many := len(x.p.list), len(x.segments), 1+x.r.Intn(20)
	s := mixed(x.next(), many)
	switch x.r.Intn(12) {
	case 0:
		number += pick(x.r, -1, 1, -number-1, 1000000)
	case 1:
		place = pick(x.r, -1, 1024, 1023)
	case 2:
		place = x.r.Intn(place + 1)
	case 3:
		s = pick(x.r, segment.Segment{First: x.next()}, mixed(-1, 1), mixed(0, 65), mixed(1<<20, 1))
	}
	err := x.add(number, place, s)
	x.tell(err)
	if err == nil && place == len(x.segments) {
		x.segments = append(x.segments, s)
	}
}

// commitAny commits what was added, most often as it must be.
func (x *random) commitAny() {
	mark := x.p.mark()
	if x.r.Intn(2) == 0 {
		mark += x.r.Intn(30)
	}
	m := following(x.p.list, mark, partsOf(x.segments...)...)
	switch x.r.Intn(12) {
	case 0:
		m.Number += pick(x.r, -1, 1)
	case 1:
		m.Prev[x.r.Intn(32)] ^= 1
	case 2:
		m.Trim -= x.r.Intn(40)
	case 3:
		m.To++
	case 4:
		s := mixed(m.To, 3)
		m.Parts, m.To = append(m.Parts, partOf(s)), m.To+3
	case 5:
		if len(m.Parts) > 0 {
			m.Parts[x.r.Intn(len(m.Parts))].Sum[5] ^= 1
		}
	}
	err := x.commit(m)
	x.tell(err)
	if err == nil {
		x.segments = nil
		x.commits++
	}
}

// anyObject is the name of an object that is there, or might be.
func (x *random) anyObject() string {
	names, _ := x.v.Store().List("")
	number, place := x.r.Intn(len(x.p.list)+2), x.r.Intn(3)
	return pick(x.r, pick(x.r, append(names, "p")...), manifestFile(number), segmentFile(number, place), "p000000-00000", "c-export")
}

// putAny puts an object: that of another name, one that is spoilt, or nothing.
func (x *random) putAny() {
	b, _ := x.v.Store().Get(x.anyObject())
	if len(b) > 0 && x.r.Intn(3) == 0 {
		b[x.r.Intn(len(b))] ^= 1 << x.r.Intn(8)
	}
	x.putObject(x.anyObject(), b)
}

// restore puts all manifests, so that the chain is read as it is.
func (x *random) restore() {
	for i, m := range x.p.list {
		x.putObject(manifestFile(i), manifestBytes(m))
	}
	x.deleteObject(manifestFile(len(x.p.list)))
}

func (x *random) openAny() {
	if x.r.Intn(3) > 0 {
		x.restore()
	}
	err := x.open()
	x.tell(err)
	if err == nil {
		x.segments = nil
	}
}

func (x *random) power() {
	keep := []bool{x.r.Intn(2) == 0, x.r.Intn(2) == 0}[:x.r.Intn(3)]
	switch x.r.Intn(5) {
	case 0:
		x.both(func(d *disk.Disk) { d.Cut(keep...) })
	case 1:
		n := x.r.Intn(20)
		x.both(func(d *disk.Disk) { d.Fuse(n) })
	default:
		x.both(func(d *disk.Disk) { d.Start() })
	}
}

// P17.1: any calls, in any order, whatever the fuses and cuts, and whatever the driver does to the store.
func TestAnyOrder(t *testing.T) {
	commits, refused := 0, map[error]int{}
	for seed := range int64(120) {
		r := rand.New(rand.NewSource(seed))
		x := &random{pair: begin(t, pick(r, 500, 3000, 1<<20), nil), r: r, refused: refused}
		for range 100 {
			switch r.Intn(16) {
			case 0, 1, 2, 3, 4:
				x.addAny()
			case 5, 6, 7, 8:
				x.commitAny()
			case 9, 10:
				x.tell(x.drop(r.Intn(len(x.p.list)+2)-1, r.Intn(4)-1))
			case 11:
				x.tell(x.sweep())
			case 12:
				x.openAny()
			case 13:
				if r.Intn(2) == 0 {
					x.putAny()
				} else {
					x.deleteObject(x.anyObject())
				}
			default:
				x.power()
			}
		}
		commits += x.commits
	}
	if commits < 300 {
		t.Error(commits, "commits")
	}
	for _, err := range []error{api.ErrRange, api.ErrForm, api.ErrLong, api.ErrNone, api.ErrFull, api.ErrSum, api.ErrChain, api.ErrState, api.ErrDown} {
		if refused[err] < 5 {
			t.Error(err, refused[err])
		}
	}
}
