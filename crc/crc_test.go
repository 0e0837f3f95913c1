package crc_test

import (
	"bytes"
	"hash/crc32"
	"math/rand"
	"slices"
	"sync"
	"testing"

	"holdfast/api"
	"holdfast/crc"
)

// meant is the sum as the chapter tells it, bit by bit.
func meant(b []byte) uint32 {
	bits := ^uint32(0)
	for _, one := range b {
		bits ^= uint32(one)
		for range 8 {
			if bits&1 == 1 {
				bits = bits>>1 ^ 0x82f63b78
			} else {
				bits >>= 1
			}
		}
	}
	return ^bits
}

// makers is a maker of each kind: a new one, one that was asked before, and none.
func makers() map[string]*crc.Maker {
	used := crc.New()
	used.Sum([]byte("before"))
	return map[string]*crc.Maker{"new": crc.New(), "used": used, "nil": nil}
}

func drawBytes(r *rand.Rand, most int) []byte {
	b := make([]byte, r.Intn(most+1))
	r.Read(b)
	return b
}

// drawParts parts b at any places, also into parts of nothing.
func drawParts(r *rand.Rand, b []byte) [][]byte {
	var parts [][]byte
	for range r.Intn(6) {
		cut := r.Intn(len(b) + 1)
		parts = append(parts, b[:cut])
		b = b[cut:]
	}
	return append(parts, b)
}

func counting(n int) []byte {
	b := make([]byte, n)
	for i := range b {
		b[i] = byte(i)
	}
	return b
}

// P2.1: Sum.

func TestSum(t *testing.T) {
	down := counting(32)
	slices.Reverse(down)
	for name, m := range makers() {
		for _, c := range []struct {
			b    []byte
			want uint32
		}{
			{nil, 0},
			{[]byte{}, 0},
			{[]byte("123456789"), 0xe3069283},
			{[]byte("a"), 0xc1d04330},
			{make([]byte, 32), 0x8a9136aa},
			{bytes.Repeat([]byte{0xff}, 32), 0x62a8ab43},
			{counting(32), 0x46dd794e},
			{down, 0x113fdb5c},
		} {
			if got := m.Sum(c.b); got != c.want {
				t.Errorf("%s: Sum(%v) = %x, want %x", name, c.b, got, c.want)
			}
		}
	}
}

func TestSumOfEachByteAlone(t *testing.T) {
	for name, m := range makers() {
		for i := range 256 {
			b := []byte{byte(i)}
			if got, want := m.Sum(b), meant(b); got != want {
				t.Errorf("%s: Sum(%v) = %x, want %x", name, b, got, want)
			}
		}
	}
}

func TestSumAtEachLength(t *testing.T) {
	b := make([]byte, 600)
	rand.New(rand.NewSource(1)).Read(b)
	table := crc32.MakeTable(crc32.Castagnoli)
	for name, m := range makers() {
		for n := range b {
			if got, want := m.Sum(b[:n]), crc32.Checksum(b[:n], table); got != want || got != meant(b[:n]) {
				t.Fatalf("%s: the sum of %d bytes is %x, want %x", name, n, got, want)
			}
		}
	}
}

func TestSumOfManyBytes(t *testing.T) {
	b := make([]byte, 1<<20+3)
	rand.New(rand.NewSource(2)).Read(b)
	want := crc32.Checksum(b, crc32.MakeTable(crc32.Castagnoli))
	for name, m := range makers() {
		if got := m.Sum(b); got != want {
			t.Errorf("%s: %x, want %x", name, got, want)
		}
	}
}

// P2.1: Of.

func TestOf(t *testing.T) {
	for name, m := range makers() {
		for _, c := range []struct {
			parts [][]byte
			want  uint32
		}{
			{nil, 0},
			{[][]byte{}, 0},
			{[][]byte{nil}, 0},
			{[][]byte{nil, {}, nil}, 0},
			{[][]byte{[]byte("123456789")}, 0xe3069283},
			{[][]byte{[]byte("1234"), []byte("56789")}, 0xe3069283},
			{[][]byte{nil, []byte("1"), {}, []byte("2345678"), []byte("9"), nil}, 0xe3069283},
		} {
			if got := m.Of(c.parts...); got != c.want {
				t.Errorf("%s: Of(%q) = %x, want %x", name, c.parts, got, c.want)
			}
		}
	}
}

// P2.1: Extend.

func TestExtend(t *testing.T) {
	for name, m := range makers() {
		for _, c := range []struct {
			sum  uint32
			b    []byte
			want uint32
		}{
			{0, nil, 0},
			{0, []byte("123456789"), 0xe3069283},
			{meant([]byte("1234")), []byte("56789"), 0xe3069283},
			{0xe3069283, nil, 0xe3069283},
			{0xe3069283, []byte{}, 0xe3069283},
			{1, nil, 1},
			{0xffffffff, nil, 0xffffffff},
			// The bits are all 0, and stay so.
			{0xffffffff, make([]byte, 9), 0xffffffff},
			{0xffffffff, []byte{0x80}, ^uint32(0x82f63b78)},
		} {
			if got := m.Extend(c.sum, c.b); got != c.want {
				t.Errorf("%s: Extend(%x, %v) = %x, want %x", name, c.sum, c.b, got, c.want)
			}
		}
	}
}

func TestExtendOfAnyBits(t *testing.T) {
	r := rand.New(rand.NewSource(3))
	table := crc32.MakeTable(crc32.Castagnoli)
	for name, m := range makers() {
		for range 2000 {
			sum, b := r.Uint32(), drawBytes(r, 40)
			if got, want := m.Extend(sum, b), crc32.Update(sum, table, b); got != want {
				t.Fatalf("%s: Extend(%x, %v) = %x, want %x", name, sum, b, got, want)
			}
		}
	}
}

// P2.1: Sealed, Opened.

func TestSealed(t *testing.T) {
	for name, m := range makers() {
		for _, c := range []struct{ b, want []byte }{
			{nil, []byte{0, 0, 0, 0}},
			{[]byte{}, []byte{0, 0, 0, 0}},
			{[]byte("123456789"), []byte("123456789\xe3\x06\x92\x83")},
			{[]byte("a"), []byte("a\xc1\xd0\x43\x30")},
		} {
			if got := m.Sealed(c.b); !bytes.Equal(got, c.want) {
				t.Errorf("%s: Sealed(%q) = %q, want %q", name, c.b, got, c.want)
			}
		}
	}
}

func TestOpened(t *testing.T) {
	for name, m := range makers() {
		for _, c := range []struct {
			b, want []byte
			err     error
		}{
			{nil, nil, api.ErrForm},
			{[]byte{}, nil, api.ErrForm},
			{[]byte{0}, nil, api.ErrForm},
			{[]byte{0, 0, 0}, nil, api.ErrForm},
			{[]byte{1, 2, 3}, nil, api.ErrForm},
			{[]byte{0, 0, 0, 0}, nil, nil},
			{[]byte{0, 0, 0, 1}, nil, api.ErrSum},
			{[]byte{1, 0, 0, 0}, nil, api.ErrSum},
			{[]byte{0xff, 0xff, 0xff, 0xff}, nil, api.ErrSum},
			{[]byte{0, 0, 0, 0, 0}, nil, api.ErrSum},
			{[]byte("123456789\xe3\x06\x92\x83"), []byte("123456789"), nil},
			{[]byte("123456789\x83\x92\x06\xe3"), nil, api.ErrSum}, // the lowest first
			{[]byte("123456789\x1c\xf9\x6d\x7c"), nil, api.ErrSum}, // not turned
			{[]byte("\xe3\x06\x92\x83123456789"), nil, api.ErrSum}, // ahead
			{[]byte("123456789"), nil, api.ErrSum},
			{[]byte("12345678\xe3\x06\x92\x83"), nil, api.ErrSum},
			{[]byte("123456789\xe3\x06\x92"), nil, api.ErrSum},
			{[]byte("123456789\xe3\x06\x92\x83\x00"), nil, api.ErrSum},
			{[]byte("123456788\xe3\x06\x92\x83"), nil, api.ErrSum},
		} {
			got, err := m.Opened(c.b)
			if !bytes.Equal(got, c.want) || err != c.err {
				t.Errorf("%s: Opened(%q) = %q, %v, want %q, %v", name, c.b, got, err, c.want, c.err)
			}
		}
	}
}

func TestSealedIsOpened(t *testing.T) {
	r := rand.New(rand.NewSource(4))
	for name, m := range makers() {
		for range 500 {
			b := drawBytes(r, 200)
			sealed := m.Sealed(b)
			if got, err := m.Opened(sealed); err != nil || !bytes.Equal(got, b) {
				t.Fatalf("%s: %v, %v, want %v", name, got, err, b)
			}
			if got, want := m.Sum(b), meant(b); len(sealed) != len(b)+4 || got != want {
				t.Fatalf("%s: %d bytes sealed are %d, their sum %x, want %x", name, len(b), len(sealed), got, want)
			}
		}
	}
}

func TestEachBitOfSealedCounts(t *testing.T) {
	m := crc.New()
	sealed := m.Sealed([]byte("holdfast"))
	for i := range len(sealed) * 8 {
		turned := bytes.Clone(sealed)
		turned[i/8] ^= 1 << (i % 8)
		if got, err := m.Opened(turned); got != nil || err != api.ErrSum {
			t.Errorf("bit %d turned: %q, %v", i, got, err)
		}
	}
	for n := range sealed {
		if _, err := m.Opened(sealed[:n]); err == nil {
			t.Errorf("%d bytes of %d are opened", n, len(sealed))
		}
	}
}

// P2.1: Asked.

func TestAsked(t *testing.T) {
	m := crc.New()
	want := int64(0)
	is := func(what string) {
		t.Helper()
		for range 2 {
			if got := m.Asked(); got != want {
				t.Errorf("behind %s: Asked = %d, want %d", what, got, want)
			}
		}
	}
	is("nothing")
	for _, c := range []struct {
		what string
		call func()
	}{
		{"Sum", func() { m.Sum([]byte("ab")) }},
		{"Sum of nothing", func() { m.Sum(nil) }},
		{"Of no part", func() { m.Of() }},
		{"Of one part", func() { m.Of([]byte("ab")) }},
		{"Of parts", func() { m.Of([]byte("a"), nil, []byte("b")) }},
		{"Extend", func() { m.Extend(7, []byte("ab")) }},
		{"Extend by nothing", func() { m.Extend(7, nil) }},
		{"Sealed", func() { m.Sealed([]byte("ab")) }},
		{"Sealed of nothing", func() { m.Sealed(nil) }},
		{"Opened", func() { m.Opened([]byte{0, 0, 0, 0}) }},
		{"Opened of a wrong sum", func() { m.Opened([]byte{0, 0, 0, 1}) }},
		{"Opened of too few", func() { m.Opened([]byte{0, 0, 0}) }},
		{"Opened of nothing", func() { m.Opened(nil) }},
	} {
		c.call()
		want++
		is(c.what)
	}
	if got := crc.New().Asked(); got != 0 {
		t.Errorf("another maker was asked %d times", got)
	}
}

func TestNilIsNeverAsked(t *testing.T) {
	var m *crc.Maker
	m.Sum(nil)
	m.Of()
	m.Extend(0, nil)
	m.Opened(m.Sealed(nil))
	if got := m.Asked(); got != 0 {
		t.Error(got)
	}
}

// P2.1: whoever asks at the time when the table is made.

func TestManyAskAtOnce(t *testing.T) {
	const askers, times, rounds = 16, 2, 1000
	b := counting(300)
	want := meant(b)
	for range rounds {
		m := crc.New()
		wrong := [askers]int{}
		var start, all sync.WaitGroup
		start.Add(1)
		for i := range askers {
			all.Go(func() {
				start.Wait()
				for range times {
					got, err := m.Opened(m.Sealed(b))
					if m.Sum(b) != want || m.Of(b[:i], b[i:]) != want || m.Extend(0, b) != want || err != nil || !bytes.Equal(got, b) {
						wrong[i]++
					}
				}
			})
		}
		start.Done()
		all.Wait()
		if got := m.Asked(); got != askers*times*5 || wrong != [askers]int{} {
			t.Fatalf("asked %d times, want %d; wrong: %v", got, askers*times*5, wrong)
		}
	}
}

// P2.1: in any order.

func TestCallsInAnyOrder(t *testing.T) {
	r := rand.New(rand.NewSource(5))
	table := crc32.MakeTable(crc32.Castagnoli)
	for range 50 {
		m, asked := crc.New(), int64(0)
		for range 60 {
			b, sum := drawBytes(r, 30), r.Uint32()
			right := true
			switch r.Intn(7) {
			case 0:
				right = m.Sum(b) == meant(b)
			case 1:
				right = m.Of(drawParts(r, b)...) == meant(b)
			case 2:
				right = m.Extend(sum, b) == crc32.Update(sum, table, b)
			case 3:
				n := meant(b)
				right = bytes.Equal(m.Sealed(b), append(bytes.Clone(b), byte(n>>24), byte(n>>16), byte(n>>8), byte(n)))
			case 4:
				got, err := m.Opened(append(bytes.Clone(b), byte(sum>>24), byte(sum>>16), byte(sum>>8), byte(sum)))
				right = got == nil && err == api.ErrSum || sum == meant(b)
			case 5:
				got, err := m.Opened(b[:min(len(b), 3)])
				right = got == nil && err == api.ErrForm
			case 6:
				asked--
			}
			asked++
			if !right || m.Asked() != asked {
				t.Fatalf("of %v, %x: right %v, asked %d, want %d", b, sum, right, m.Asked(), asked)
			}
		}
	}
}

// Nothing that is handed in is changed or kept; each answer is new memory.

func TestArgumentsStayAsTheyAre(t *testing.T) {
	for name, m := range makers() {
		room := []byte("abcdefgh")
		b := room[:3]
		m.Sum(b)
		m.Of(b, room[4:6])
		m.Extend(5, b)
		m.Sealed(b)
		m.Opened(b)
		if string(room) != "abcdefgh" {
			t.Errorf("%s: %q", name, room)
		}
		parts := [][]byte{[]byte("a"), []byte("b"), []byte("c")}
		m.Of(parts[:2]...)
		if string(parts[0]) != "a" || string(parts[1]) != "b" || string(parts[2]) != "c" {
			t.Errorf("%s: %q", name, parts)
		}
		sealed := append(m.Sealed([]byte("ab")), "room"...)
		was := bytes.Clone(sealed)
		m.Opened(sealed[:6])
		if !bytes.Equal(sealed, was) {
			t.Errorf("%s: %q", name, sealed)
		}
	}
}

func TestAnswersShareNothing(t *testing.T) {
	for name, m := range makers() {
		room := []byte("abcdefgh")
		sealed := m.Sealed(room[:3])
		first := bytes.Clone(sealed)
		room[0] = 'x'
		again := m.Sealed([]byte("abc"))
		again[0] = 'y'
		if !bytes.Equal(sealed, first) {
			t.Errorf("%s: sealed is %q, was %q", name, sealed, first)
		}
		opened, err := m.Opened(sealed)
		if err != nil {
			t.Fatal(err)
		}
		// Behind what is opened as well.
		_ = append(opened[:cap(opened)], 'z')
		for i := range opened[:cap(opened)] {
			opened[:cap(opened)][i] = 'z'
		}
		if !bytes.Equal(sealed, first) {
			t.Errorf("%s: sealed is %q, was %q", name, sealed, first)
		}
		sealed[1] = 'w'
		if string(opened) != "zzz" {
			t.Errorf("%s: opened is %q", name, opened)
		}
	}
}

// P2.2: where bytes are parted.

func TestWhereBytesArePartedChangesNothing(t *testing.T) {
	r := rand.New(rand.NewSource(6))
	for name, m := range makers() {
		for range 500 {
			b := drawBytes(r, 100)
			want := m.Sum(b)
			parts := drawParts(r, b)
			if got := m.Of(parts...); got != want {
				t.Fatalf("%s: Of(%v) = %x, want %x", name, parts, got, want)
			}
			sum := m.Sum(nil)
			for _, part := range parts {
				sum = m.Extend(sum, part)
			}
			if sum != want {
				t.Fatalf("%s: extended by %v: %x, want %x", name, parts, sum, want)
			}
		}
		b := counting(40)
		for cut := range len(b) + 1 {
			if m.Of(b[:cut], b[cut:]) != m.Sum(b) || m.Extend(m.Sum(b[:cut]), b[cut:]) != m.Sum(b) {
				t.Errorf("%s: parted at %d the sum is another", name, cut)
			}
		}
		var each [][]byte
		for i := range b {
			each = append(each, b[i:i+1])
		}
		if m.Of(each...) != m.Sum(b) {
			t.Errorf("%s: parted byte by byte the sum is another", name)
		}
	}
}

// P2.2: bits that are turned. Bits stand in the order in which they are taken in: of each byte the lowest one first.

func turn(b []byte, bit int) { b[bit/8] ^= 1 << (bit % 8) }

func TestOneBitTurned(t *testing.T) {
	r := rand.New(rand.NewSource(7))
	for name, m := range makers() {
		for n := range 70 {
			b := make([]byte, n)
			r.Read(b)
			want := m.Sum(b)
			for bit := range n * 8 {
				turn(b, bit)
				if m.Sum(b) == want {
					t.Fatalf("%s: bit %d of %d bytes turned, and the sum is the same", name, bit, n)
				}
				turn(b, bit)
			}
		}
	}
}

func TestBitsTurnedThatStandTogether(t *testing.T) {
	r := rand.New(rand.NewSource(8))
	for name, m := range makers() {
		for range 20000 {
			b := make([]byte, 1+r.Intn(40))
			r.Read(b)
			want := m.Sum(b)
			wide := 1 + r.Intn(min(32, len(b)*8))
			from := r.Intn(len(b)*8 - wide + 1)
			// The first and the last one are turned, of those between any.
			spoilt := bytes.Clone(b)
			for bit := from; bit < from+wide; bit++ {
				if bit == from || bit == from+wide-1 || r.Intn(2) == 0 {
					turn(spoilt, bit)
				}
			}
			if m.Sum(spoilt) == want {
				t.Fatalf("%s: %d bits from %d on: %v and %v have the same sum", name, wide, from, b, spoilt)
			}
		}
	}
}

func TestAllBitsTurnedThatStandTogether(t *testing.T) {
	m, b := crc.New(), counting(20)
	want := m.Sum(b)
	for wide := 1; wide <= 32; wide++ {
		for from := range len(b)*8 - wide + 1 {
			spoilt := bytes.Clone(b)
			for bit := from; bit < from+wide; bit++ {
				turn(spoilt, bit)
			}
			if m.Sum(spoilt) == want {
				t.Errorf("%d bits from %d on turned, and the sum is the same", wide, from)
			}
		}
	}
}

func TestBytesTurnedThatStandTogether(t *testing.T) {
	r := rand.New(rand.NewSource(9))
	m, b := crc.New(), counting(50)
	want := m.Sum(b)
	for range 20000 {
		// Four bytes are 32 bits in whatever order bits are told.
		from := r.Intn(len(b) - 3)
		spoilt := bytes.Clone(b)
		r.Read(spoilt[from : from+4])
		if m.Sum(spoilt) == want && !bytes.Equal(spoilt, b) {
			t.Fatalf("%v and %v have the same sum", b, spoilt)
		}
	}
}
