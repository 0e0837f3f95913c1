package varint_test

import (
	"bytes"
	"encoding/binary"
	"math"
	"math/rand"
	"slices"
	"testing"

	"holdfast/api"
	"holdfast/varint"
)

// edges is the numbers at which a group more begins, and their neighbours.
func edges() []uint64 {
	list := []uint64{0, 1, 5, 300, 1 << 62, 1<<62 + 1, math.MaxInt64, math.MaxUint64 - 1, math.MaxUint64}
	for bits := 7; bits < 64; bits += 7 {
		list = append(list, 1<<bits-1, 1<<bits, 1<<bits+1)
	}
	return list
}

// draw is a number of any size, small ones as often as great ones.
func draw(r *rand.Rand) uint64 { return r.Uint64() >> r.Intn(64) }

// P1.1: Put, Size.

func TestPut(t *testing.T) {
	for _, c := range []struct {
		n    uint64
		want []byte
	}{
		{0, []byte{0}},
		{1, []byte{1}},
		{127, []byte{127}},
		{128, []byte{128, 1}},
		{300, []byte{172, 2}},
		{16383, []byte{255, 127}},
		{16384, []byte{128, 128, 1}},
		{1 << 63, []byte{128, 128, 128, 128, 128, 128, 128, 128, 128, 1}},
		{math.MaxUint64, []byte{255, 255, 255, 255, 255, 255, 255, 255, 255, 1}},
	} {
		if got := varint.Put(nil, c.n); !bytes.Equal(got, c.want) {
			t.Errorf("Put(nil, %d) = %v, want %v", c.n, got, c.want)
		}
		if got := varint.Size(c.n); got != len(c.want) {
			t.Errorf("Size(%d) = %d, want %d", c.n, got, len(c.want))
		}
	}
	for _, n := range edges() {
		if got, want := varint.Put(nil, n), binary.AppendUvarint(nil, n); !bytes.Equal(got, want) || varint.Size(n) != len(want) {
			t.Errorf("Put(nil, %d) = %v, Size %d, want %v", n, got, varint.Size(n), want)
		}
	}
}

func TestPutTakesAnyNumberOfNumbers(t *testing.T) {
	if got := varint.Put([]byte{7, 8}, 1, 300, 0); !bytes.Equal(got, []byte{7, 8, 1, 172, 2, 0}) {
		t.Error(got)
	}
	if got := varint.Put([]byte{7, 8}); !bytes.Equal(got, []byte{7, 8}) {
		t.Error(got)
	}
	if got := varint.Put(nil); len(got) != 0 {
		t.Error(got)
	}
	if got := varint.Put(nil, []uint64{}...); len(got) != 0 {
		t.Error(got)
	}
}

func TestPutTextAndPutList(t *testing.T) {
	long := bytes.Repeat([]byte{3}, 200)
	for _, c := range []struct{ got, want []byte }{
		{varint.PutText([]byte{9}, []byte("ab")), []byte{9, 2, 'a', 'b'}},
		{varint.PutText(nil, nil), []byte{0}},
		{varint.PutText([]byte{9}, []byte{}), []byte{9, 0}},
		{varint.PutText(nil, long), append([]byte{200, 1}, long...)},
		{varint.PutList([]byte{9}, []uint64{1, 300}), []byte{9, 2, 1, 172, 2}},
		{varint.PutList(nil, nil), []byte{0}},
		{varint.PutList([]byte{9}, []uint64{}), []byte{9, 0}},
		{varint.PutList(nil, make([]uint64, 128)), append([]byte{128, 1}, make([]byte, 128)...)},
	} {
		if !bytes.Equal(c.got, c.want) {
			t.Errorf("got %v, want %v", c.got, c.want)
		}
	}
}

// What is put stands in new memory: neither b nor its spare room is written to, and the answer is not b's.
func TestPutLeavesItsArgumentsAlone(t *testing.T) {
	for name, put := range map[string]func(b []byte) []byte{
		"Put of none": func(b []byte) []byte { return varint.Put(b) },
		"Put":         func(b []byte) []byte { return varint.Put(b, 300, 1) },
		"PutText":     func(b []byte) []byte { return varint.PutText(b, []byte("xyz")) },
		"PutList":     func(b []byte) []byte { return varint.PutList(b, []uint64{4, 5}) },
	} {
		room := []byte{1, 2, 9, 9, 9, 9, 9, 9}
		got := put(room[:2])
		if !bytes.Equal(room, []byte{1, 2, 9, 9, 9, 9, 9, 9}) {
			t.Errorf("%s wrote into what it was given: %v", name, room)
		}
		kept := bytes.Clone(got)
		room[0], room[1], room[2] = 77, 77, 77
		if !bytes.Equal(got, kept) {
			t.Errorf("%s answers memory of what it was given", name)
		}
	}
	list, text := []uint64{1, 2, 3}, []byte("abc")
	varint.Put(nil, list...)
	varint.PutList(nil, list)
	got := varint.PutText(nil, text)
	got[1] = 'z'
	if !slices.Equal(list, []uint64{1, 2, 3}) || string(text) != "abc" {
		t.Error("an argument was changed", list, text)
	}
}

// P1.1, P1.2: Take.

func TestTake(t *testing.T) {
	for _, n := range edges() {
		b := varint.Put(nil, n)
		for _, behind := range [][]byte{nil, {0}, {255, 255}} {
			got, size, err := varint.Take(append(bytes.Clone(b), behind...))
			if got != n || size != len(b) || err != nil {
				t.Errorf("Take of %d's bytes = %d, %d, %v", n, got, size, err)
			}
		}
		for cut := range b {
			if got, size, err := varint.Take(b[:cut]); got != 0 || size != 0 || err != api.ErrForm {
				t.Errorf("Take of %v = %d, %d, %v", b[:cut], got, size, err)
			}
		}
	}
}

func TestTakeRefusesOtherBytes(t *testing.T) {
	nine := bytes.Repeat([]byte{128}, 9)
	full := bytes.Repeat([]byte{255}, 9)
	for _, b := range [][]byte{
		nil,
		{},
		{128, 0},
		{255, 0},
		{172, 130, 0},
		{128, 128},
		append(bytes.Clone(nine), 0),
		append(bytes.Clone(nine), 2),
		append(bytes.Clone(full), 2),
		append(bytes.Clone(full), 3),
		append(bytes.Clone(full), 127),
		append(bytes.Clone(full), 129, 0),
		append(bytes.Clone(nine), 128, 1),
		append(bytes.Clone(full), 255, 255, 255, 1),
	} {
		if n, size, err := varint.Take(b); n != 0 || size != 0 || err != api.ErrForm {
			t.Errorf("Take(%v) = %d, %d, %v, want ErrForm", b, n, size, err)
		}
	}
}

// takesOwnBytes asks whether a row is taken if and only if it begins with the bytes that its number is put as.
func takesOwnBytes(t *testing.T, row []byte) {
	t.Helper()
	want, size := binary.Uvarint(row)
	own := size > 0 && bytes.Equal(binary.AppendUvarint(nil, want), row[:size])
	n, k, err := varint.Take(row)
	if own && (n != want || k != size || err != nil) {
		t.Fatalf("Take(%v) = %d, %d, %v, want %d, %d", row, n, k, err, want, size)
	}
	if !own && (n != 0 || k != 0 || err != api.ErrForm) {
		t.Fatalf("Take(%v) = %d, %d, %v, want ErrForm", row, n, k, err)
	}
}

func TestEachRowIsOneNumberAtMost(t *testing.T) {
	for a := range 256 {
		takesOwnBytes(t, []byte{byte(a)})
		for b := range 256 {
			takesOwnBytes(t, []byte{byte(a), byte(b)})
			takesOwnBytes(t, []byte{byte(a), 128 | byte(b), byte(b) & 1})
		}
	}
	r := rand.New(rand.NewSource(1))
	for range 200000 {
		row := make([]byte, r.Intn(13))
		for i := range row {
			row[i] = byte(r.Intn(256))
			if r.Intn(4) > 0 {
				row[i] |= 128
			}
			if r.Intn(4) == 0 {
				row[i] &= 131
			}
		}
		takesOwnBytes(t, row)
	}
}

// P1.1, P1.2: Zigzag, Zagzig.

func TestZigzag(t *testing.T) {
	for _, c := range []struct {
		n int64
		u uint64
	}{
		{0, 0}, {-1, 1}, {1, 2}, {-2, 3}, {2, 4}, {150, 300}, {-150, 299},
		{1 << 62, 1 << 63},
		{math.MaxInt64, math.MaxUint64 - 1},
		{math.MinInt64, math.MaxUint64},
		{math.MinInt64 + 1, math.MaxUint64 - 2},
	} {
		if got := varint.Zigzag(c.n); got != c.u {
			t.Errorf("Zigzag(%d) = %d, want %d", c.n, got, c.u)
		}
		if got := varint.Zagzig(c.u); got != c.n {
			t.Errorf("Zagzig(%d) = %d, want %d", c.u, got, c.n)
		}
	}
	r := rand.New(rand.NewSource(2))
	for range 10000 {
		u := draw(r)
		if got := varint.Zigzag(varint.Zagzig(u)); got != u {
			t.Fatalf("Zigzag(Zagzig(%d)) = %d", u, got)
		}
	}
}

func TestWhatIsPutIsTaken(t *testing.T) {
	r := rand.New(rand.NewSource(3))
	for range 2000 {
		list := make([]uint64, r.Intn(20))
		for i := range list {
			list[i] = draw(r)
		}
		text := make([]byte, r.Intn(300))
		r.Read(text)
		b := varint.PutText(varint.PutList(varint.Put(nil, list...), list), text)
		x := varint.New(b)
		for _, n := range list {
			if got := x.Number(); got != n {
				t.Fatalf("Number = %d, want %d", got, n)
			}
		}
		if got := x.List(len(list)); !slices.Equal(got, list) {
			t.Fatalf("List = %v, want %v", got, list)
		}
		if got := x.Text(len(text)); !bytes.Equal(got, text) {
			t.Fatalf("Text = %v, want %v", got, text)
		}
		if err := x.End(); err != nil {
			t.Fatal(err)
		}
	}
}
