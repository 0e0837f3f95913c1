package sha_test

import (
	"bytes"
	"crypto/sha256"
	"math"
	"math/big"
	"math/rand"
	"strings"
	"sync"
	"testing"

	"holdfast/sha"
)

const emptyHex = "e3b0c44298fc1c149afbf4c8996fb92427ae41e4649b934ca495991b7852b855"

func drawBytes(r *rand.Rand, most int) []byte {
	b := make([]byte, r.Intn(most+1))
	r.Read(b)
	return b
}

// drawParts parts b at any places, also into parts of nothing.
func drawParts(r *rand.Rand, b []byte) [][]byte {
	var parts [][]byte
	for range r.Intn(8) {
		cut := r.Intn(len(b) + 1)
		parts = append(parts, b[:cut])
		b = b[cut:]
	}
	return append(parts, b)
}

func meant(b []byte) sha.Digest { return sha.Digest(sha256.Sum256(b)) }

// P3.1: Sum.

func TestSum(t *testing.T) {
	for _, c := range []struct{ text, want string }{
		{"", emptyHex},
		{"abc", "ba7816bf8f01cfea414140de5dae2223b00361a396177a9cb410ff61f20015ad"},
		{"a", "ca978112ca1bbdcafac231b39a23dc4da786eff8147c4e72b9807785afee48bb"},
		{"\x00", "6e340b9cffb37a989ca544e6bb780a2c78901d3fb33738768511a30617afa01d"},
		{"\x80", "76be8b528d0075f7aae98d6fa57a6d3c83ae480a8469e668d7b0af968995ac71"},
		{"abcdbcdecdefdefgefghfghighijhijkijkljklmklmnlmnomnopnopq", "248d6a61d20638b8e5c026930c3e6039a33ce45964ff2167f6ecedd419db06c1"},
		{"abcdefghbcdefghicdefghijdefghijkefghijklfghijklmghijklmnhijklmnoijklmnopjklmnopqklmnopqrlmnopqrsmnopqrstnopqrstu", "cf5b16a778af8380036ce59e7b0492370b249b11e8f07a51afac45037afee9d1"},
		{strings.Repeat("a", 1000000), "cdc76e5c9914fb9281a1c7e284d73e67f1809a48a497200e046d39ccc7112cd0"},
	} {
		if got := sha.Hex(sha.Sum([]byte(c.text))); got != c.want {
			t.Errorf("Sum of %.20q (%d bytes) = %s, want %s", c.text, len(c.text), got, c.want)
		}
	}
	if got := sha.Hex(sha.Sum(nil)); got != emptyHex {
		t.Errorf("Sum(nil) = %s", got)
	}
}

// Each length over several blocks: 55, 56, 63 and 64 are those at which the noughts and the blocks change.
func TestSumAtEachLength(t *testing.T) {
	drawn := make([]byte, 400)
	rand.New(rand.NewSource(1)).Read(drawn)
	for _, b := range [][]byte{drawn, make([]byte, 400), bytes.Repeat([]byte{255}, 400), bytes.Repeat([]byte{128}, 400)} {
		for n := range len(b) + 1 {
			if got, want := sha.Sum(b[:n]), meant(b[:n]); got != want {
				t.Fatalf("the digest of %d bytes, the first one %d, is %s, want %s", n, b[0], sha.Hex(got), sha.Hex(want))
			}
		}
	}
}

func TestSumOfDrawnTexts(t *testing.T) {
	r := rand.New(rand.NewSource(2))
	for range 3000 {
		b := drawBytes(r, 300)
		if got, want := sha.Sum(b), meant(b); got != want {
			t.Fatalf("Sum(%v) = %s, want %s", b, sha.Hex(got), sha.Hex(want))
		}
	}
	b := make([]byte, 1<<20+7)
	r.Read(b)
	if got, want := sha.Sum(b), meant(b); got != want {
		t.Errorf("the digest of %d bytes is %s, want %s", len(b), sha.Hex(got), sha.Hex(want))
	}
}

func TestEachBitOfATextCounts(t *testing.T) {
	text := make([]byte, 130)
	rand.New(rand.NewSource(3)).Read(text)
	seen := map[sha.Digest]int{sha.Sum(text): -1}
	for i := range len(text) * 8 {
		turned := bytes.Clone(text)
		turned[i/8] ^= 1 << (i % 8)
		d := sha.Sum(turned)
		if other, ok := seen[d]; ok {
			t.Fatalf("bits %d and %d come to the same digest", other, i)
		}
		seen[d] = i
	}
}

// Texts that their padding alone tells apart.
func TestATextIsNotItsPaddedOne(t *testing.T) {
	seen := map[sha.Digest]int{}
	for n := range 200 {
		b := make([]byte, n)
		if n > 0 {
			b[0] = 128
		}
		d := sha.Sum(b)
		if other, ok := seen[d]; ok {
			t.Fatalf("%d and %d bytes come to the same digest", other, n)
		}
		seen[d] = n
	}
}

// P3.1: Of.

func TestOf(t *testing.T) {
	abc := "ba7816bf8f01cfea414140de5dae2223b00361a396177a9cb410ff61f20015ad"
	for _, c := range []struct {
		parts [][]byte
		want  string
	}{
		{nil, emptyHex},
		{[][]byte{}, emptyHex},
		{[][]byte{nil}, emptyHex},
		{[][]byte{nil, {}, nil}, emptyHex},
		{[][]byte{[]byte("abc")}, abc},
		{[][]byte{[]byte("a"), []byte("bc")}, abc},
		{[][]byte{[]byte("ab"), []byte("c")}, abc},
		{[][]byte{nil, []byte("a"), {}, []byte("b"), nil, []byte("c"), {}}, abc},
		{[][]byte{[]byte("c"), []byte("ab")}, sha.Hex(meant([]byte("cab")))},
		{[][]byte{[]byte("abc"), []byte("abc")}, sha.Hex(meant([]byte("abcabc")))},
	} {
		if got := sha.Hex(sha.Of(c.parts...)); got != c.want {
			t.Errorf("Of(%q) = %s, want %s", c.parts, got, c.want)
		}
	}
}

// More than 2^32 bits: how many there are takes more than one word.
func TestOfManyBytes(t *testing.T) {
	if testing.Short() {
		t.Skip("half a gigabyte")
	}
	part := make([]byte, 1<<20)
	rand.New(rand.NewSource(4)).Read(part)
	parts, want := [][]byte{}, sha256.New()
	for range 1 << 9 {
		parts = append(parts, part)
		want.Write(part)
	}
	parts = append(parts, []byte("end"))
	want.Write([]byte("end"))
	if got := sha.Of(parts...); !bytes.Equal(got[:], want.Sum(nil)) {
		t.Errorf("%s, want %x", sha.Hex(got), want.Sum(nil))
	}
}

// P3.1: Constant, First.

// behindThePoint is the first 32 bits behind the point of a number's root, found by trying bit by bit.
func behindThePoint(n, degree int64) uint32 {
	power, root := big.NewInt(degree), new(big.Int)
	most := new(big.Int).Lsh(big.NewInt(n), uint(32*degree))
	for bit := 40; bit >= 0; bit-- {
		tried := new(big.Int).SetBit(root, bit, 1)
		if new(big.Int).Exp(tried, power, nil).Cmp(most) <= 0 {
			root = tried
		}
	}
	return uint32(root.Uint64())
}

func primes(many int) []int64 {
	var list []int64
	for n := int64(2); len(list) < many; n++ {
		if big.NewInt(n).ProbablyPrime(10) {
			list = append(list, n)
		}
	}
	return list
}

func TestConstants(t *testing.T) {
	for i, p := range primes(64) {
		if got, want := sha.Constant(i), behindThePoint(p, 3); got != want {
			t.Errorf("Constant(%d) = %08x, want %08x", i, got, want)
		}
	}
	if sha.Constant(0) != 0x428a2f98 || sha.Constant(63) != 0xc67178f2 {
		t.Errorf("%08x, %08x", sha.Constant(0), sha.Constant(63))
	}
}

func TestFirst(t *testing.T) {
	for i, p := range primes(8) {
		if got, want := sha.First(i), behindThePoint(p, 2); got != want {
			t.Errorf("First(%d) = %08x, want %08x", i, got, want)
		}
	}
	if sha.First(0) != 0x6a09e667 || sha.First(7) != 0x5be0cd19 {
		t.Errorf("%08x, %08x", sha.First(0), sha.First(7))
	}
}

func TestOtherNumbersHaveNoWord(t *testing.T) {
	for _, i := range []int{-1, -2, -8, -64, 64, 65, 127, 128, 256, 1 << 31, 1 << 32, math.MaxInt, math.MinInt} {
		if got := sha.Constant(i); got != 0 {
			t.Errorf("Constant(%d) = %08x", i, got)
		}
		if got := sha.First(i); got != 0 {
			t.Errorf("First(%d) = %08x", i, got)
		}
	}
	for i := 8; i < 64; i++ {
		if got := sha.First(i); got != 0 {
			t.Errorf("First(%d) = %08x", i, got)
		}
	}
}

// P3.1: Zero.

func TestZero(t *testing.T) {
	if !sha.Zero(sha.Digest{}) {
		t.Error("all bytes are 0")
	}
	for i := range 256 {
		var d sha.Digest
		d[i/8] = 1 << (i % 8)
		if sha.Zero(d) {
			t.Errorf("bit %d is 1", i)
		}
	}
	if sha.Zero(sha.Sum(nil)) || sha.Zero(sha.Digest(bytes.Repeat([]byte{255}, 32))) {
		t.Error("no byte of it is 0")
	}
}

// P3.1: Link.

func TestLink(t *testing.T) {
	r := rand.New(rand.NewSource(5))
	for n := range 200 {
		var ahead sha.Digest
		r.Read(ahead[:])
		text := make([]byte, n)
		r.Read(text)
		want := meant(append(bytes.Clone(ahead[:]), text...))
		if got := sha.Link(ahead, text); got != want || got != sha.Of(ahead[:], text) {
			t.Fatalf("Link(%s, %v) = %s, want %s", sha.Hex(ahead), text, sha.Hex(got), sha.Hex(want))
		}
	}
	if got, want := sha.Link(sha.Digest{}, nil), meant(make([]byte, 32)); got != want {
		t.Errorf("Link of noughts and nothing = %s, want %s", sha.Hex(got), sha.Hex(want))
	}
	if got, want := sha.Link(sha.Digest{}, []byte("abc")), meant(append(make([]byte, 32), "abc"...)); got != want || got == sha.Sum([]byte("abc")) {
		t.Errorf("Link of noughts and abc = %s, want %s", sha.Hex(got), sha.Hex(want))
	}
}

// P3.2: where a text is parted.

func TestWhereATextIsPartedChangesNothing(t *testing.T) {
	r := rand.New(rand.NewSource(6))
	for range 2000 {
		b := drawBytes(r, 300)
		if got, want := sha.Of(drawParts(r, b)...), sha.Sum(b); got != want {
			t.Fatalf("of the parts of %v: %s, want %s", b, sha.Hex(got), sha.Hex(want))
		}
	}
	b := make([]byte, 200)
	r.Read(b)
	want := meant(b)
	for one := range len(b) + 1 {
		for two := one; two <= len(b); two++ {
			if got := sha.Of(b[:one], b[one:two], b[two:]); got != want {
				t.Fatalf("parted at %d and %d: %s, want %s", one, two, sha.Hex(got), sha.Hex(want))
			}
		}
	}
	var ones [][]byte
	for i := range b {
		ones = append(ones, b[i:i+1], nil)
	}
	if got := sha.Of(ones...); got != want {
		t.Errorf("byte by byte: %s, want %s", sha.Hex(got), sha.Hex(want))
	}
}

// What is handed in stays as it is, and what is answered hangs on nothing else.

func TestArgumentsStayAsTheyAre(t *testing.T) {
	room := []byte(strings.Repeat("abcdefgh", 30))
	was := bytes.Clone(room)
	for n := range 200 {
		sha.Sum(room[:n])
		sha.Of(room[:n], room[n:n+1])
		sha.Link(sha.Digest{1}, room[:n])
	}
	if !bytes.Equal(room, was) {
		t.Errorf("%q", room)
	}
	parts := [][]byte{[]byte("a"), []byte("b"), []byte("c"), []byte("d")}
	sha.Of(parts[:2]...)
	if got := string(bytes.Join(parts, []byte("-"))); got != "a-b-c-d" {
		t.Error(got)
	}
}

func TestManyAskAtOnce(t *testing.T) {
	text := []byte(strings.Repeat("holdfast", 20))
	want := meant(text)
	var all sync.WaitGroup
	for i := range 16 {
		all.Go(func() {
			for range 50 {
				if got := sha.Of(text[:i], text[i:]); got != want {
					t.Errorf("parted at %d: %s, want %s", i, sha.Hex(got), sha.Hex(want))
				}
			}
		})
	}
	all.Wait()
}
