package frame_test

import (
	"bytes"
	"encoding/binary"
	"hash/crc32"
	"math"
	"math/rand"
	"slices"
	"testing"

	"holdfast/api"
	"holdfast/frame"
)

const most = 65536

// sealed is bytes and their sum, by the library's CRC-32C.
func sealed(b []byte) []byte {
	sum := crc32.Checksum(b, crc32.MakeTable(crc32.Castagnoli))
	return binary.BigEndian.AppendUint32(bytes.Clone(b), sum)
}

// meant is a text's frame, told once more by the library.
func meant(text []byte) []byte {
	return sealed(append(binary.AppendUvarint(nil, uint64(len(text))), text...))
}

// meantAll is frames one behind the other, and where each of them ends.
func meantAll(texts [][]byte) (b []byte, ends []int) {
	for _, text := range texts {
		b = append(b, meant(text)...)
		ends = append(ends, len(b))
	}
	return b, ends
}

// plain is Take as the chapter tells it, told once more.
func plain(b []byte) ([]byte, int, error) {
	n, head := binary.Uvarint(b)
	if head <= 0 || !bytes.Equal(binary.AppendUvarint(nil, n), b[:head]) {
		return nil, 0, api.ErrForm
	}
	if n > most {
		return nil, 0, api.ErrLong
	}
	size := head + int(n) + 4
	if len(b) < size {
		return nil, 0, api.ErrForm
	}
	if !bytes.Equal(sealed(b[:size-4]), b[:size]) {
		return nil, 0, api.ErrSum
	}
	return b[head : size-4], size, nil
}

// plainAll is the texts of frames, how many bytes these have, and the error behind them.
func plainAll(b []byte) (texts [][]byte, size int, err error) {
	for size < len(b) {
		text, more, err := plain(b[size:])
		if err != nil {
			return texts, size, err
		}
		texts = append(texts, text)
		size += more
	}
	return texts, size, nil
}

func equal(a, b [][]byte) bool { return slices.EqualFunc(a, b, bytes.Equal) }

func drawText(r *rand.Rand, longest int) []byte {
	text := make([]byte, r.Intn(longest+1))
	r.Read(text)
	return text
}

func drawTexts(r *rand.Rand, many, longest int) [][]byte {
	texts := make([][]byte, r.Intn(many+1))
	for i := range texts {
		texts[i] = drawText(r, longest)
	}
	return texts
}

// lengths is where a number's bytes become more, the limit, and their neighbours.
func lengths() []int {
	return []int{0, 1, 2, 64, 126, 127, 128, 129, 16382, 16383, 16384, 16385, most - 1, most}
}

func tooLong() [][]byte {
	return [][]byte{make([]byte, most+1), make([]byte, most+2), make([]byte, 2*most), make([]byte, 1<<21)}
}

// P4.1: Put, Size.

func TestPut(t *testing.T) {
	for _, c := range []struct{ b, text, want string }{
		{"", "", "\x00\x52\x7d\x53\x51"},
		{"xy", "", "xy\x00\x52\x7d\x53\x51"},
		{"", "ab", string(meant([]byte("ab")))},
		{"xy", "ab", "xy" + string(meant([]byte("ab")))},
	} {
		got, err := frame.Put([]byte(c.b), []byte(c.text))
		if string(got) != c.want || err != nil {
			t.Errorf("Put(%q, %q) = %q, %v, want %q", c.b, c.text, got, err, c.want)
		}
	}
	if got, err := frame.Put(nil, nil); string(got) != "\x00\x52\x7d\x53\x51" || err != nil {
		t.Errorf("%q, %v", got, err)
	}
}

func TestPutAtEachLength(t *testing.T) {
	r := rand.New(rand.NewSource(1))
	for _, n := range lengths() {
		text := make([]byte, n)
		r.Read(text)
		want := meant(text)
		got, err := frame.Put([]byte{7, 8}, text)
		if err != nil || !bytes.Equal(got, append([]byte{7, 8}, want...)) {
			t.Errorf("Put of %d bytes: %d bytes, %v", n, len(got), err)
		}
		if size := frame.Size(text); size != len(want) {
			t.Errorf("Size of %d bytes = %d, want %d", n, size, len(want))
		}
		taken, size, err := frame.Take(append(bytes.Clone(want), 9))
		if err != nil || size != len(want) || !bytes.Equal(taken, text) {
			t.Errorf("Take of %d bytes: %d bytes, %d, %v", n, len(taken), size, err)
		}
		one, err := frame.One(want)
		if err != nil || !bytes.Equal(one, text) {
			t.Errorf("One of %d bytes: %d bytes, %v", n, len(one), err)
		}
	}
	if got := frame.Size(nil); got != 5 {
		t.Error(got)
	}
}

func TestWhatIsTooLongIsNotPut(t *testing.T) {
	for _, text := range tooLong() {
		for _, b := range [][]byte{nil, {1, 2}} {
			if got, err := frame.Put(b, text); len(got) != 0 || err != api.ErrLong {
				t.Errorf("Put of %d bytes: %d bytes, %v", len(text), len(got), err)
			}
		}
		for _, texts := range [][][]byte{{text}, {text, []byte("a")}, {[]byte("a"), text}, {nil, text, nil}} {
			if got, err := frame.Join(texts...); len(got) != 0 || err != api.ErrLong {
				t.Errorf("Join with %d bytes: %d bytes, %v", len(text), len(got), err)
			}
		}
		// Such a text has no frame; what is asked is how many bytes one would have.
		if got, want := frame.Size(text), len(meant(text)); got != want {
			t.Errorf("Size of %d bytes = %d, want %d", len(text), got, want)
		}
	}
}

// P4.1: Take.

func TestTake(t *testing.T) {
	for _, c := range []struct {
		b, text string
		size    int
	}{
		{"\x00\x52\x7d\x53\x51", "", 5},
		{"\x00\x52\x7d\x53\x51\x00", "", 5},
		{"\x00\x52\x7d\x53\x51\x00\x52\x7d\x53\x51", "", 5},
		{"\x00\x52\x7d\x53\x51ab", "", 5},
		{string(meant([]byte("ab"))), "ab", 7},
		{string(meant([]byte("ab"))) + "\xff\xff", "ab", 7},
		{string(meant([]byte("ab"))) + string(meant([]byte("cd"))), "ab", 7},
	} {
		text, size, err := frame.Take([]byte(c.b))
		if string(text) != c.text || size != c.size || err != nil {
			t.Errorf("Take(%q) = %q, %d, %v, want %q, %d", c.b, text, size, err, c.text, c.size)
		}
	}
}

// wrong is bytes that begin with no frame, and what is said of them.
func wrong() []struct {
	b    []byte
	want error
} {
	number := func(n uint64) []byte { return binary.AppendUvarint(nil, n) }
	with := func(head []byte, more int) []byte { return append(head, make([]byte, more)...) }
	ab := meant([]byte("ab"))
	long := make([]byte, most+1)
	return []struct {
		b    []byte
		want error
	}{
		{[]byte{128}, api.ErrForm},
		{[]byte{255, 255}, api.ErrForm},
		{sealed([]byte{128, 0}), api.ErrForm},           // 0, but in too many bytes
		{sealed([]byte{130, 0, 'a', 'b'}), api.ErrForm}, // 2, but in too many bytes
		{with(bytes.Repeat([]byte{255}, 10), 9), api.ErrForm},
		{append(bytes.Repeat([]byte{255}, 9), 2, 0, 0, 0, 0), api.ErrForm}, // above 2^64 - 1

		{number(most + 1), api.ErrLong},
		{with(number(most+1), 9), api.ErrLong},
		{meant(long), api.ErrLong},
		{with(meant(long), 9), api.ErrLong},
		{number(1 << 31), api.ErrLong},
		{number(1<<32 + 2), api.ErrLong},
		{number(math.MaxInt64 - 3), api.ErrLong},
		{number(math.MaxInt64), api.ErrLong},
		{with(number(1<<63), 9), api.ErrLong},
		{with(number(math.MaxUint64-3), 9), api.ErrLong},
		{with(number(math.MaxUint64), 9), api.ErrLong},

		{[]byte{0}, api.ErrForm},
		{[]byte{0, 0x52, 0x7d, 0x53}, api.ErrForm},
		{[]byte{2, 'a', 'b'}, api.ErrForm},
		{ab[:6], api.ErrForm},
		{[]byte{2, 'a', 'b', 0, 0, 0}, api.ErrForm}, // too few, whatever they are
		{ab[1:], api.ErrForm},
		{number(most), api.ErrForm},
		{with(number(most), most), api.ErrForm},
		{with(number(most), most+3), api.ErrForm},
		{meant(long[:most])[:3+most+3], api.ErrForm},

		{[]byte{0, 0, 0, 0, 0}, api.ErrSum},
		{[]byte{0, 0x51, 0x53, 0x7d, 0x52}, api.ErrSum}, // the lowest first
		{[]byte{0, 0x52, 0x7d, 0x53, 0x50}, api.ErrSum},
		{[]byte{0, 0x53, 0x7d, 0x53, 0x51, 0x00, 0x52, 0x7d, 0x53, 0x51}, api.ErrSum},
		{append([]byte{2}, sealed([]byte("ab"))...), api.ErrSum}, // the text's alone
		{with(number(most), most+4), api.ErrSum},
		{append([]byte{1}, ab[1:]...), api.ErrSum},
		{append([]byte{2, 'a', 'c'}, ab[3:]...), api.ErrSum},
	}
}

func TestTakeRefuses(t *testing.T) {
	for _, b := range [][]byte{nil, {}} {
		if text, size, err := frame.Take(b); len(text) != 0 || size != 0 || err != api.ErrForm {
			t.Errorf("of nothing: %q, %d, %v", text, size, err)
		}
	}
	for i, c := range wrong() {
		if text, size, err := frame.Take(c.b); len(text) != 0 || size != 0 || err != c.want {
			t.Errorf("%d: %d bytes: %q, %d, %v, want %v", i, len(c.b), text, size, err, c.want)
		}
	}
}

// P4.1: All, Prefix, Join.

func TestAllPrefixAndJoin(t *testing.T) {
	for _, texts := range [][][]byte{
		nil,
		{},
		{nil},
		{{}},
		{nil, nil, nil},
		{[]byte("ab")},
		{[]byte("ab"), []byte("ab"), nil, []byte("c")},
		{make([]byte, most), []byte("x"), make([]byte, most)},
	} {
		want, _ := meantAll(texts)
		joined, err := frame.Join(texts...)
		if err != nil || !bytes.Equal(joined, want) {
			t.Errorf("Join of %d texts: %d bytes, %v, want %d", len(texts), len(joined), err, len(want))
		}
		all, err := frame.All(want)
		if err != nil || !equal(all, texts) {
			t.Errorf("All of %d texts: %d, %v", len(texts), len(all), err)
		}
		some, size := frame.Prefix(want)
		if size != len(want) || !equal(some, texts) {
			t.Errorf("Prefix of %d texts: %d, %d bytes of %d", len(texts), len(some), size, len(want))
		}
	}
	if got, err := frame.Join(); len(got) != 0 || err != nil {
		t.Error(got, err)
	}
	if got, err := frame.Join(nil); string(got) != "\x00\x52\x7d\x53\x51" || err != nil {
		t.Error(got, err)
	}
	if got, err := frame.All(nil); len(got) != 0 || err != nil {
		t.Error(got, err)
	}
	if got, size := frame.Prefix(nil); len(got) != 0 || size != 0 {
		t.Error(got, size)
	}
}

func TestAllAndPrefixStopAtTheFirstError(t *testing.T) {
	texts := [][]byte{[]byte("ab"), nil, make([]byte, 300)}
	for i, c := range wrong() {
		for many := range len(texts) + 1 {
			ahead, _ := meantAll(texts[:many])
			b := append(bytes.Clone(ahead), c.b...)
			all, err := frame.All(b)
			if len(all) != 0 || err != c.want {
				t.Errorf("%d behind %d: All: %d texts, %v, want %v", i, many, len(all), err, c.want)
			}
			some, size := frame.Prefix(b)
			if !equal(some, texts[:many]) || size != len(ahead) {
				t.Errorf("%d behind %d: Prefix: %d texts, %d bytes, want %d", i, many, len(some), size, len(ahead))
			}
		}
	}
}

func TestTheFirstOfTwoErrorsIsTold(t *testing.T) {
	bad := []byte{0, 0, 0, 0, 0}
	long := binary.AppendUvarint(nil, most+1)
	for i, c := range []struct {
		b    []byte
		want error
	}{
		{slices.Concat(bad, long), api.ErrSum},
		{slices.Concat(bad, meant(nil), []byte{128}), api.ErrSum},
		{slices.Concat(meant(nil), bad, []byte{128}), api.ErrSum},
		{slices.Concat(long, bad), api.ErrLong},
		{slices.Concat(meant(nil), long, bad), api.ErrLong},
		{slices.Concat([]byte{128, 0}, bad, long), api.ErrForm},
	} {
		if all, err := frame.All(c.b); len(all) != 0 || err != c.want {
			t.Errorf("%d: %d texts, %v, want %v", i, len(all), err, c.want)
		}
	}
}

// P4.1: One.

func TestOne(t *testing.T) {
	for _, text := range []string{"", "a", "ab", string(make([]byte, 200))} {
		if got, err := frame.One(meant([]byte(text))); string(got) != text || err != nil {
			t.Errorf("%q, %v, want %q", got, err, text)
		}
		for _, more := range [][]byte{{0}, {9, 9}, meant(nil), meant([]byte(text))} {
			b := append(meant([]byte(text)), more...)
			if got, err := frame.One(b); len(got) != 0 || err != api.ErrForm {
				t.Errorf("with %v behind it: %q, %v", more, got, err)
			}
		}
	}
	if got, err := frame.One(nil); len(got) != 0 || err != api.ErrForm {
		t.Error(got, err)
	}
	for i, c := range wrong() {
		if got, err := frame.One(c.b); len(got) != 0 || err != c.want {
			t.Errorf("%d: %q, %v, want %v", i, got, err, c.want)
		}
	}
	// Take's error goes ahead of what stands behind the frame.
	if got, err := frame.One([]byte{0, 0, 0, 0, 0, 9}); len(got) != 0 || err != api.ErrSum {
		t.Error(got, err)
	}
}

// P4.1: at all arguments.

// drawFrames is bytes that are often frames, and often nearly.
func drawFrames(r *rand.Rand) []byte {
	b, _ := meantAll(drawTexts(r, 4, 12))
	for range r.Intn(3) {
		switch at := r.Intn(len(b) + 1); r.Intn(4) {
		case 0:
			b = b[:at]
		case 1:
			b = slices.Insert(b, at, byte(r.Intn(256)>>r.Intn(8)))
		case 2:
			b = append(b, meant(drawText(r, 5))...)
		case 3:
			if at < len(b) {
				b[at] ^= 1 << r.Intn(8)
			}
		}
	}
	return b
}

func TestTakingFromAnyBytes(t *testing.T) {
	r := rand.New(rand.NewSource(2))
	for range 20000 {
		b := drawFrames(r)
		text, size, err := frame.Take(b)
		wantText, wantSize, wantErr := plain(b)
		if !bytes.Equal(text, wantText) || size != wantSize || err != wantErr {
			t.Fatalf("Take(%v) = %v, %d, %v, want %v, %d, %v", b, text, size, err, wantText, wantSize, wantErr)
		}
		if wantErr == nil && wantSize < len(b) {
			wantText, wantErr = nil, api.ErrForm
		}
		if one, err := frame.One(b); !bytes.Equal(one, wantText) || err != wantErr {
			t.Fatalf("One(%v) = %v, %v, want %v, %v", b, one, err, wantText, wantErr)
		}
		texts, size, wantErr := plainAll(b)
		if some, got := frame.Prefix(b); !equal(some, texts) || got != size {
			t.Fatalf("Prefix(%v) = %v, %d, want %v, %d", b, some, got, texts, size)
		}
		if wantErr != nil {
			texts = nil
		}
		if all, err := frame.All(b); !equal(all, texts) || err != wantErr {
			t.Fatalf("All(%v) = %v, %v, want %v, %v", b, all, err, texts, wantErr)
		}
	}
}

// P4.2: what is joined is taken as it was.

func TestWhatIsJoinedIsTakenAsItWas(t *testing.T) {
	r := rand.New(rand.NewSource(3))
	for range 500 {
		texts := drawTexts(r, 8, 400)
		joined, err := frame.Join(texts...)
		if err != nil {
			t.Fatal(err)
		}
		var put []byte
		size := 0
		for _, text := range texts {
			if put, err = frame.Put(put, text); err != nil {
				t.Fatal(err)
			}
			size += frame.Size(text)
		}
		if !bytes.Equal(joined, put) || size != len(joined) {
			t.Fatalf("joined %d bytes, put %d, told %d", len(joined), len(put), size)
		}
		if all, err := frame.All(joined); err != nil || !equal(all, texts) {
			t.Fatalf("All: %d texts, %v, want %d", len(all), err, len(texts))
		}
		left := joined
		for i, text := range texts {
			got, size, err := frame.Take(left)
			if err != nil || !bytes.Equal(got, text) || size != frame.Size(text) {
				t.Fatalf("Take of text %d: %d bytes, %d, %v", i, len(got), size, err)
			}
			left = left[size:]
		}
		if len(left) != 0 {
			t.Fatalf("%d bytes are left", len(left))
		}
	}
}

// P4.2: a prefix of frames is frames, and at most one that isn't whole.

func TestEachPrefixOfFrames(t *testing.T) {
	r := rand.New(rand.NewSource(4))
	sets := [][][]byte{
		{nil, nil, nil},
		{[]byte("ab"), nil, make([]byte, 127), make([]byte, 128), []byte("c")},
	}
	for range 20 {
		sets = append(sets, drawTexts(r, 6, 150))
	}
	for _, texts := range sets {
		b, ends := meantAll(texts)
		for cut := range len(b) + 1 {
			whole, size := 0, 0
			for whole < len(ends) && ends[whole] <= cut {
				size = ends[whole]
				whole++
			}
			some, got := frame.Prefix(b[:cut])
			if got != size || !equal(some, texts[:whole]) {
				t.Fatalf("%d bytes of %d: Prefix: %d texts, %d bytes, want %d, %d", cut, len(b), len(some), got, whole, size)
			}
			all, err := frame.All(b[:cut])
			if cut == size && (err != nil || !equal(all, texts[:whole])) {
				t.Fatalf("%d bytes of %d: All: %d texts, %v", cut, len(b), len(all), err)
			}
			if cut > size && (err != api.ErrForm || len(all) != 0) {
				t.Fatalf("%d bytes of %d: All: %d texts, %v, want %v", cut, len(b), len(all), err, api.ErrForm)
			}
		}
	}
}

// P4.2: what was spoilt is found out, and only what stands ahead of it is taken.

func TestEachBitTurned(t *testing.T) {
	texts := [][]byte{[]byte("holdfast"), nil, make([]byte, 130), []byte("z")}
	b, ends := meantAll(texts)
	for bit := range len(b) * 8 {
		b[bit/8] ^= 1 << (bit % 8)
		whole, size := 0, 0
		for ends[whole] <= bit/8 {
			size = ends[whole]
			whole++
		}
		if all, err := frame.All(b); err == nil || len(all) != 0 {
			t.Errorf("bit %d turned: All: %d texts, %v", bit, len(all), err)
		}
		if some, got := frame.Prefix(b); got != size || !equal(some, texts[:whole]) {
			t.Errorf("bit %d turned: Prefix: %d texts, %d bytes, want %d, %d", bit, len(some), got, whole, size)
		}
		if text, got, err := frame.Take(b[size:]); err == nil || got != 0 || len(text) != 0 {
			t.Errorf("bit %d turned: Take: %q, %d, %v", bit, text, got, err)
		}
		b[bit/8] ^= 1 << (bit % 8)
	}
}

// Nothing that is handed in is changed or kept; each answer is new memory.

func TestArgumentsStayAsTheyAre(t *testing.T) {
	room := append([]byte("ab"), "spare room, and more of it"...)
	was := bytes.Clone(room)
	text := room[5:8]
	texts := [][]byte{room[:1], room[1:2], []byte("last")}
	frame.Put(room[:2], text)
	frame.Put(room[:0], nil)
	frame.Put(room[:2], make([]byte, most+1))
	frame.Join(texts[:2]...)
	frame.Size(text)
	if !bytes.Equal(room, was) || string(texts[2]) != "last" {
		t.Errorf("%q, %q", room, texts)
	}
	b := append(append(meant([]byte("ab")), meant([]byte("c"))...), "room"...)
	was = bytes.Clone(b)
	for cut := range b {
		frame.Take(b[:cut])
		frame.One(b[:cut])
		frame.All(b[:cut])
		frame.Prefix(b[:cut])
	}
	if !bytes.Equal(b, was) {
		t.Errorf("%v, was %v", b, was)
	}
}

// wipe overwrites an answer, and the spare room behind it.
func wipe(b []byte) {
	for i := range b[:cap(b)] {
		b[:cap(b)][i] = 'W'
	}
}

func TestWhatIsPutSharesNothing(t *testing.T) {
	b, text := make([]byte, 2, 100), []byte("text")
	want := append(make([]byte, 2), meant(text)...)
	put, _ := frame.Put(b, text)
	again, _ := frame.Put(b, text)
	joined, _ := frame.Join(text)
	wipe(again)
	wipe(b)
	wipe(text)
	if !bytes.Equal(put, want) || !bytes.Equal(joined, want[2:]) {
		t.Errorf("%q, %q, want %q", put, joined, want)
	}
	wipe(put)
	wipe(joined)
	if string(text) != "WWWW" {
		t.Errorf("%q", text)
	}
}

func TestWhatIsTakenSharesNothing(t *testing.T) {
	words := []string{"one", "two", "three", "four"}
	b, _ := frame.Join([]byte("one"), []byte("two"), []byte("three"), []byte("four"))
	was := bytes.Clone(b)
	all, _ := frame.All(b)
	some, _ := frame.Prefix(b)
	first, size, _ := frame.Take(b)
	one, _ := frame.One(b[:size])
	if len(all) != len(words) || len(some) != len(words) {
		t.Fatal(len(all), len(some))
	}
	for i, word := range words {
		for _, texts := range [][][]byte{all, some} {
			if string(texts[i]) != word {
				t.Errorf("text %d is %q, want %q", i, texts[i], word)
			}
			wipe(texts[i])
		}
	}
	if string(first) != "one" || string(one) != "one" {
		t.Errorf("%q, %q", first, one)
	}
	wipe(first)
	if string(one) != "one" {
		t.Errorf("%q", one)
	}
	wipe(one)
	if !bytes.Equal(b, was) {
		t.Errorf("%q, was %q", b, was)
	}
}

func TestWhatIsTakenIsNotKept(t *testing.T) {
	b := meant([]byte("text"))
	all, _ := frame.All(b)
	some, _ := frame.Prefix(b)
	first, _, _ := frame.Take(b)
	one, _ := frame.One(b)
	wipe(b)
	for i, text := range [][]byte{all[0], some[0], first, one} {
		if string(text) != "text" {
			t.Errorf("%d: %q", i, text)
		}
	}
}
