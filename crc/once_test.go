package crc

import "testing"

// That a table is made once can't be told from outside but by a race: so a mark is left in it, which making it again would wipe out.
func TestTheTableIsMadeOnceAndWhenItIsNeeded(t *testing.T) {
	m := New()
	m.Asked()
	if m.table != [byteKinds]uint32{} {
		t.Error("there is a table, and nobody needs one")
	}
	m.Sum([]byte("first"))
	if m.table[0x80] != castagnoli {
		t.Errorf("%x, want %x", m.table[0x80], uint32(castagnoli))
	}
	m.table[0] = 1
	b := []byte("again")
	m.Opened(m.Sealed(b))
	m.Extend(m.Of(b), b)
	if m.table[0] != 1 {
		t.Error("the table was made again")
	}
}
