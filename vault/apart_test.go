package vault_test

import (
	"slices"
	"testing"

	"holdfast/api"
	"holdfast/cell"
	"holdfast/manifest"
	"holdfast/segment"
)

// P17.1: nothing that is handed in is changed or kept, nor is its room; an answer is new memory.

// wipe writes over all memory that a list has, its spare room included.
func wipe[T any](list []T, with T) {
	for i := range list[:cap(list)] {
		list[:cap(list)][i] = with
	}
}

func TestAddIsApart(t *testing.T) {
	x := begin(t, 100000, nil)
	s := segmentOf(3, "abc", "o", "de")
	room := append(make([]cell.Cell, 0, 9), s.Cells...)
	room = append(room, cell.Cell{Kind: 77}, cell.Cell{Kind: 78})
	s.Cells = room[:3]
	for i := range s.Cells {
		s.Cells[i].Data = append(append(make([]byte, 0, 9), s.Cells[i].Data...), "room"...)[:len(s.Cells[i].Data)]
	}
	p, err := x.v.Add(0, 0, s)
	if want := segmentOf(3, "abc", "o", "de"); err != nil || p != partOf(want) || !segment.Same(s, want) {
		t.Error(p, err, s)
	}
	if room[3].Kind != 77 || room[4].Kind != 78 || string(s.Cells[0].Data[:7]) != "abcroom" || string(s.Cells[2].Data[:6]) != "deroom" {
		t.Error(room)
	}
	for i := range s.Cells {
		wipe(s.Cells[i].Data, 'z')
	}
	wipe(room, cell.Cell{})
	if err := x.v.Commit(following(nil, 0, p)); err != nil {
		t.Error(err)
	}
	if s, err := x.v.Get(0, 0); !segment.Same(s, segmentOf(3, "abc", "o", "de")) || err != nil {
		t.Error(s, err)
	}
}

func TestCommitIsApart(t *testing.T) {
	b := five()
	wiped := manifest.Part{First: 77, Many: 77, Size: 77}
	for round := range 2 {
		x := begin(t, 100000, nil)
		for i, m := range b.chain() {
			for j, s := range b.segments[i] {
				x.wants(nil, x.add(i, j, s))
			}
			room := append(slices.Clone(m.Parts), wiped, wiped)
			m.Parts = room[:len(m.Parts)]
			was := show(m)
			if round == 1 {
				// One that is refused is kept as little.
				x.d.Fuse(1)
				if err := x.v.Commit(m); err != api.ErrDown {
					t.Error(err)
				}
				x.d.Start()
			}
			if err := x.v.Commit(m); err != nil || show(m) != was || room[len(m.Parts)] != wiped || room[len(m.Parts)+1] != wiped {
				t.Error(i, err, show(m))
			}
			wipe(room, wiped)
			if got := showAll(x.v.Chain()); got != showAll(b.chain()[:i+1]) {
				t.Error(got)
			}
			x.p.commit(b.chain()[i])
		}
		x.same("all commits")
	}
}

func TestAnswersAreApart(t *testing.T) {
	b := five()
	x := begin(t, 100000, b.files())
	list := x.v.Chain()
	other := x.v.Chain()
	for i := range list {
		wipe(list[i].Parts, manifest.Part{First: 77})
	}
	wipe(list, manifest.Manifest{Number: 77})
	if showAll(other) != showAll(b.chain()) {
		t.Error(showAll(other))
	}
	x.same("what was done to an answer")
	s, err := x.v.Get(3, 0)
	again, err2 := x.v.Get(3, 0)
	c, err3 := x.v.Read(73)
	if err != nil || err2 != nil || err3 != nil {
		t.Fatal(err, err2, err3)
	}
	for _, one := range s.Cells {
		wipe(one.Data, 'z')
	}
	wipe(s.Cells, cell.Cell{Kind: 77})
	if !segment.Same(again, b.segments[3][0]) || string(c.Data) != "a" {
		t.Error(again, c)
	}
	wipe(c.Data, 'z')
	x.same("what was done to an answer")
	// What an answer has grows beside the vault's own.
	list = x.v.Chain()
	list = append(list[:2], manifest.Manifest{Number: 55})
	list[0].Parts = append(list[0].Parts[:1], manifest.Part{First: 55})
	x.same("what was done to an answer")
	x.wants(nil, x.commit(following(b.chain(), 72)))
}
