package sha_test

import (
	"encoding/hex"
	"math/rand"
	"strings"
	"testing"

	"holdfast/api"
	"holdfast/sha"
)

// P3.1: Hex.

func TestHex(t *testing.T) {
	var d sha.Digest
	if got := sha.Hex(d); got != strings.Repeat("0", 64) {
		t.Error(got)
	}
	for i := range d {
		d[i] = byte(i*8 + 1)
	}
	if got, want := sha.Hex(d), "0109111921293139414951596169717981899199a1a9b1b9c1c9d1d9e1e9f1f9"; got != want {
		t.Errorf("%s, want %s", got, want)
	}
	for one := range 256 {
		for place := range d {
			d := sha.Digest{}
			d[place] = byte(one)
			if got, want := sha.Hex(d), hex.EncodeToString(d[:]); got != want {
				t.Fatalf("byte %d at %d: %s, want %s", one, place, got, want)
			}
		}
	}
}

// P3.1: Parse.

func TestParse(t *testing.T) {
	for _, c := range []struct {
		text string
		want sha.Digest
	}{
		{strings.Repeat("0", 64), sha.Digest{}},
		{strings.Repeat("0", 63) + "1", sha.Digest{31: 1}},
		{"1" + strings.Repeat("0", 63), sha.Digest{0: 16}},
		{"01" + strings.Repeat("0", 62), sha.Digest{0: 1}},
		{"0123456789abcdef" + strings.Repeat("0", 48), sha.Digest{0x01, 0x23, 0x45, 0x67, 0x89, 0xab, 0xcd, 0xef}},
		{"ba7816bf8f01cfea414140de5dae2223b00361a396177a9cb410ff61f20015ad", sha.Sum([]byte("abc"))},
	} {
		if got, err := sha.Parse(c.text); got != c.want || err != nil {
			t.Errorf("Parse(%s) = %v, %v, want %v", c.text, got, err, c.want)
		}
	}
}

func refused(t *testing.T, text string) {
	t.Helper()
	if got, err := sha.Parse(text); got != (sha.Digest{}) || err != api.ErrForm {
		t.Errorf("Parse(%q) = %v, %v, want ErrForm", text, got, err)
	}
}

func TestParseRefusesOtherLengths(t *testing.T) {
	long := strings.Repeat("a", 130)
	for n := range long {
		if n != 64 {
			refused(t, long[:n])
		}
	}
	good := sha.Hex(sha.Sum(nil))
	for _, text := range []string{" " + good, good + " ", good + "\n", good + "\x00", "0x" + good, "0x" + good[2:], good[:63] + " ", " " + good[1:]} {
		refused(t, text)
	}
}

func TestParseRefusesOtherSigns(t *testing.T) {
	good := sha.Hex(sha.Sum([]byte("abc")))
	for place := range len(good) {
		for one := range 256 {
			text := good[:place] + string([]byte{byte(one)}) + good[place+1:]
			if strings.IndexByte("0123456789abcdef", byte(one)) < 0 {
				refused(t, text)
			} else if got, err := sha.Parse(text); err != nil || sha.Hex(got) != text {
				t.Errorf("Parse(%q) = %v, %v", text, got, err)
			}
		}
	}
	refused(t, strings.ToUpper(good))
	// 64 signs, but more bytes; and 64 bytes, but fewer signs.
	refused(t, strings.Repeat("ä", 64))
	refused(t, strings.Repeat("ä", 32))
	refused(t, strings.Repeat("0", 62)+"é")
	refused(t, strings.Repeat("０", 64)) // wide noughts
}

// P3.2: Hex and Parse undo one another.

func TestHexAndParseUndoOneAnother(t *testing.T) {
	r := rand.New(rand.NewSource(7))
	for range 2000 {
		var d sha.Digest
		r.Read(d[:])
		if got, err := sha.Parse(sha.Hex(d)); got != d || err != nil {
			t.Fatalf("%v became %v, %v", d, got, err)
		}
		var text strings.Builder
		for range 64 {
			text.WriteByte("0123456789abcdef"[r.Intn(16)])
		}
		got, err := sha.Parse(text.String())
		if back := sha.Hex(got); back != text.String() || err != nil {
			t.Fatalf("%s became %s, %v", text.String(), back, err)
		}
	}
}
