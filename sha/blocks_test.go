package sha

import (
	"bytes"
	"math/rand"
	"slices"
	"testing"
)

// cutBlocks takes no more than most blocks of the padded parts.
func cutBlocks(parts [][]byte, most int) []byte {
	var all []byte
	for b := range blocks(padded(parts)) {
		if most == 0 {
			break
		}
		most--
		all = append(all, b[:]...)
	}
	return all
}

// asMeant is the padded text, nought by nought.
func asMeant(text []byte) []byte {
	all := append(bytes.Clone(text), 128)
	for len(all)%64 != 56 {
		all = append(all, 0)
	}
	for k := 56; k >= 0; k -= 8 {
		all = append(all, byte(uint64(len(text))*8>>k))
	}
	return all
}

func TestBlocksArePaddedAsFewAsCanBe(t *testing.T) {
	text := make([]byte, 300)
	rand.New(rand.NewSource(1)).Read(text)
	for n := range text {
		want := asMeant(text[:n])
		for _, parts := range [][][]byte{{text[:n]}, {text[:n/2], nil, text[n/2 : n]}, slices.Collect(slices.Chunk(text[:n], 7))} {
			if got := cutBlocks(parts, 100); !bytes.Equal(got, want) {
				t.Fatalf("the blocks of %d bytes in %d parts are %v, want %v", n, len(parts), got, want)
			}
		}
	}
}

func TestBlocksEndWhereTheyAreLeft(t *testing.T) {
	text := make([]byte, 200)
	parts := [][]byte{text[:100], text[100:]}
	want := asMeant(text)
	for most := range 5 {
		if got := cutBlocks(parts, most); !bytes.Equal(got, want[:min(64*most, len(want))]) {
			t.Errorf("%d blocks: %v", most, got)
		}
	}
	pieces := 0
	for range padded(parts) {
		pieces++
		break
	}
	if pieces != 1 {
		t.Error(pieces)
	}
}

// Texts too long to be had here: their bits take all eight bytes, and wrap around.
func TestPaddingTellsEachSize(t *testing.T) {
	for _, c := range []struct {
		size uint64
		want []byte
	}{
		{1<<29 - 1, []byte{0, 0, 0, 0, 255, 255, 255, 248}},
		{1 << 29, []byte{0, 0, 0, 1, 0, 0, 0, 0}},
		{1<<31 - 1, []byte{0, 0, 0, 3, 255, 255, 255, 248}},
		{0x0123456789abcdef, []byte{0x09, 0x1a, 0x2b, 0x3c, 0x4d, 0x5e, 0x6f, 0x78}},
		{1<<61 - 1, []byte{255, 255, 255, 255, 255, 255, 255, 248}},
		{1 << 61, []byte{0, 0, 0, 0, 0, 0, 0, 0}},
		{1<<64 - 1, []byte{255, 255, 255, 255, 255, 255, 255, 248}},
	} {
		got := padding(c.size)
		whole := (c.size%64+uint64(len(got)))%64 == 0
		if !whole || len(got) > 72 || got[0] != 128 || !bytes.Equal(got[len(got)-8:], c.want) {
			t.Errorf("padding(%d) = %v, want %v at its end", c.size, got, c.want)
		}
	}
}
