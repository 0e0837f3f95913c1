package segment_test

import (
	"bytes"
	"math"
	"math/rand"
	"strings"
	"testing"

	"holdfast/api"
	"holdfast/segment"
)

// P14.1: Put.

func TestPut(t *testing.T) {
	for _, c := range []struct {
		s    segment.Segment
		text string
	}{
		{of(0), "\x00\x00"},
		{of(127), "\x7f\x00"},
		{of(300), "\xac\x02\x00"},
		{of(addresses), "\x80\x80\x40\x00"},
		{of(3, hole), "\x03\x01\x01\x02"},
		{of(3, empty), "\x03\x01\x01\x00"},
		{of(3, trimmed, trimmed), "\x03\x02\x02\x03"},
		{of(0, data("")), "\x00\x01\x00\x00\x00"},
		{of(5, hole, hole, data("ab"), data("ac"), empty), "\x05\x05\x02\x02\x00\x02\x00ab\x00\x02\x01c\x01\x00"},
		{of(addresses-1, data("a")), "\xff\xff\x3f\x01\x00\x01\x00a"},
		{of(addresses-most, many(most, trimmed)...), "\xc0\xff\x3f\x40\x40\x03"},
	} {
		if got, err := segment.Put(c.s); string(got) != string(framed(c.text)) || err != nil {
			t.Errorf("%s: %x, %v, want %x", show(c.s), got, err, framed(c.text))
		}
	}
	for _, s := range goodSegments() {
		if got, err := segment.Put(s); string(got) != string(framed(meantText(s))) || err != nil {
			t.Errorf("%s: %x, %v, want %x", show(s), got, err, framed(meantText(s)))
		}
	}
	for _, c := range wrongSegments() {
		if got, err := segment.Put(c.s); len(got) != 0 || err != c.want {
			t.Errorf("%s: %x, %v, want %v", show(c.s), got, err, c.want)
		}
	}
}

// The chapter's example: the hole at 3, with the sum that stands behind its text.
func TestTheHoleAt3(t *testing.T) {
	b, err := segment.Put(of(3, hole))
	if err != nil || len(b) != 9 || string(b[:5]) != "\x04\x03\x01\x01\x02" {
		t.Errorf("%x, %v", b, err)
	}
	if s, err := segment.Take(b); show(s) != show(of(3, hole)) || err != nil {
		t.Error(show(s), err)
	}
}

// P14.2: Put and Take undo one another.
func TestRoundTrip(t *testing.T) {
	list := goodSegments()
	r := rand.New(rand.NewSource(5))
	for range 5000 {
		list = append(list, draw(r, most))
	}
	for _, s := range list {
		b, err := segment.Put(s)
		if err != nil || string(b) != string(framed(meantText(s))) {
			t.Fatalf("%s: %x, %v", show(s), b, err)
		}
		if got, err := segment.Take(b); err != nil || !segment.Same(got, s) || show(got) != show(s) {
			t.Fatalf("%s: %s, %v", show(s), show(got), err)
		}
	}
}

// wrongTexts is what is in a frame and no segment, and what is said of it.
func wrongTexts() map[string]error {
	const great = math.MaxUint64
	last := number(addresses - 1)
	return map[string]error{
		// Something isn't there, or is no number.
		"":                             api.ErrForm,
		"\x80":                         api.ErrForm,
		"\x80\x00":                     api.ErrForm,
		"\x80\x00\x00":                 api.ErrForm,
		"\x83\x00\x01\x01\x02":         api.ErrForm,
		"\xff\xff":                     api.ErrForm,
		"\x00":                         api.ErrForm,
		"\x03":                         api.ErrForm,
		"\x03\x80":                     api.ErrForm,
		"\x03\x80\x00":                 api.ErrForm,
		"\x03\x01":                     api.ErrForm,
		"\x03\x01\x01":                 api.ErrForm,
		"\x03\x01\x01\x82":             api.ErrForm,
		"\x03\x01\x01\x82\x00":         api.ErrForm,
		"\x03\x01\x81\x00\x02":         api.ErrForm,
		"\x03\x02\x01\x02":             api.ErrForm,
		"\x03\x01\x00":                 api.ErrForm,
		"\x03\x01\x00\x02":             api.ErrForm,
		"\x03\x01\x00\x02\x00a":        api.ErrForm,
		"\x03\x02\x00\x01\x00a":        api.ErrForm,
		number(addresses):              api.ErrForm,
		number(addresses, 1):           api.ErrForm,
		number(addresses, 1, 1):        api.ErrForm,
		"\xff\xff\xff\xff\xff\xff\xff": api.ErrForm,
		// The first address: ahead of what stands behind it.
		number(addresses + 1):         api.ErrRange,
		number(addresses+1, 0):        api.ErrRange,
		number(addresses+1, 1, 1, 2):  api.ErrRange,
		number(addresses+1, 65):       api.ErrRange,
		number(addresses+1) + "\x80":  api.ErrRange,
		number(addresses+1, 0, 0):     api.ErrRange,
		number(1<<32, 0):              api.ErrRange,
		number(1<<32+3, 1, 1, 2):      api.ErrRange,
		number(1<<62, 0):              api.ErrRange,
		number(1<<62+1, 0):            api.ErrRange,
		number(1<<63, 1, 1, 2):        api.ErrRange,
		number(1<<63+3, 1, 1, 2):      api.ErrRange,
		number(great, 1, 1, 2):        api.ErrRange,
		number(addresses+1, 1, 1, 1):  api.ErrRange,
		number(addresses+1, 1, 0, 65): api.ErrRange,
		number(addresses+1, 1, 1, 4):  api.ErrRange,
		// How many cells.
		number(3, 65):                    api.ErrLong,
		number(3, 65, 65, 2):             api.ErrLong,
		number(3, 65, 64, 2, 1, 3):       api.ErrLong,
		number(3, 128, 128, 2):           api.ErrLong,
		number(3, 1<<32+1, 1, 2):         api.ErrLong,
		number(3, great, 1, 2):           api.ErrLong,
		number(3, 65) + "\x80":           api.ErrLong,
		number(addresses, 65, 65, 2):     api.ErrLong,
		number(addresses-1, 65, 1, 4, 0): api.ErrLong,
		// The run, item by item.
		number(3, 1, 2, 2):                       api.ErrForm,
		number(3, 1, 2, 4):                       api.ErrForm,
		number(3, 2, 1, 2, 2, 3):                 api.ErrForm,
		number(3, 1, 1, 1):                       api.ErrForm,
		number(3, 1, 1, 4):                       api.ErrRange,
		number(3, 1, 1, 258):                     api.ErrRange,
		number(3, 1, 1, great):                   api.ErrRange,
		number(3, 2, 1, 2, 1, 2):                 api.ErrForm,
		number(3, 2, 1, 4, 1, 1):                 api.ErrRange,
		number(3, 2, 1, 1, 1, 4):                 api.ErrForm,
		number(3, 1, 0, 65, 0):                   api.ErrLong,
		number(3, 1, 0, 65) + "\x80":             api.ErrLong,
		number(3, 1, 0, 65, 0) + long(65):        api.ErrLong,
		number(3, 1, 0, 64, 0) + long(63):        api.ErrForm,
		number(3, 1, 0, 1, 1):                    api.ErrForm,
		number(3, 1, 0, 1, 2) + "a":              api.ErrForm,
		number(3, 2, 0, 1, 0) + "a\x00\x01\x00a": api.ErrForm,
		number(3, 2, 0, 1, 0) + "a\x00\x02\x02b": api.ErrForm,
		// Something is left: ahead of what Check says.
		number(0, 0, 0):                     api.ErrForm,
		number(3, 0, 1, 2):                  api.ErrForm,
		number(3, 1, 1, 2, 0):               api.ErrForm,
		number(3, 1, 1, 2, 1, 3):            api.ErrForm,
		number(3, 1, 1, 2) + "\xff":         api.ErrForm,
		number(3, 1, 1, 2, 3, 1, 1, 2):      api.ErrForm,
		number(addresses, 0, 0):             api.ErrForm,
		number(addresses, 1, 1, 2, 0):       api.ErrForm,
		number(addresses, 1, 1, 2) + "\x80": api.ErrForm,
		last + number(2, 2, 2, 9):           api.ErrForm,
		// What Check says.
		number(addresses, 1, 1, 2):                           api.ErrRange,
		number(addresses, 1, 0, 1, 0) + "a":                  api.ErrRange,
		last + number(2, 2, 2):                               api.ErrRange,
		last + number(64, 64, 0):                             api.ErrRange,
		last + number(2, 1, 2, 1, 3):                         api.ErrRange,
		number(addresses-63, 64, 64, 2):                      api.ErrRange,
		number(addresses-2, 3, 2, 2, 0, 1, 0) + "a":          api.ErrRange,
		number(addresses-63, 64, 63, 2, 0, 64, 0) + long(64): api.ErrRange,
		// The run's error goes ahead of it.
		number(addresses, 1, 1, 1):   api.ErrForm,
		number(addresses, 2, 3, 2):   api.ErrForm,
		last + number(2, 2, 1):       api.ErrForm,
		last + number(2, 1, 2, 1):    api.ErrForm,
		last + number(2, 0, 65, 0):   api.ErrLong,
		last + number(2, 0, 1, 1):    api.ErrForm,
		last + number(2, 1, 2, 1, 2): api.ErrForm,
	}
}

// P14.1: Take.

func TestTake(t *testing.T) {
	for text, want := range wrongTexts() {
		b := framed(text)
		if got, err := segment.Take(b); show(got) != nothing || err != want {
			t.Errorf("%x: %s, %v, want %v", text, show(got), err, want)
		}
		if _, err := plainTake(b); err != want {
			t.Errorf("%x: told anew: %v, want %v", text, err, want)
		}
	}
	for _, s := range goodSegments() {
		if got, err := segment.Take(framed(meantText(s))); show(got) != show(s) || err != nil {
			t.Errorf("%s: %s, %v", show(s), show(got), err)
		}
	}
}

// P14.1: One's errors go ahead of all that is in the frame.
func TestTakeOfNoFrame(t *testing.T) {
	good := string(framed(meantText(of(3, hole, data("ab")))))
	bad := string(framed(number(addresses+1, 65)))
	turned := []byte(good)
	turned[len(turned)-1] ^= 1
	turnedBad := []byte(bad)
	turnedBad[len(turnedBad)-1] ^= 1
	noughts := strings.Repeat("\x00", longest)
	for b, want := range map[string]error{
		"":                                       api.ErrForm,
		"\x80":                                   api.ErrForm,
		"\x80\x00":                               api.ErrForm,
		good[:len(good)-1]:                       api.ErrForm,
		good[:1]:                                 api.ErrForm,
		good + "\x00":                            api.ErrForm,
		good + good:                              api.ErrForm,
		bad:                                      api.ErrRange,
		bad + "\x00":                             api.ErrForm,
		bad[:len(bad)-1]:                         api.ErrForm,
		string(turned):                           api.ErrSum,
		string(turnedBad):                        api.ErrSum,
		string(turned) + "\x00":                  api.ErrSum,
		meantText(of(3, hole)):                   api.ErrForm,
		number(longest):                          api.ErrForm,
		number(longest + 1):                      api.ErrLong,
		number(math.MaxUint64):                   api.ErrLong,
		string(framed("")):                       api.ErrForm,
		string(framed(noughts)):                  api.ErrForm,
		string(framed(noughts + "\x00")):         api.ErrLong,
		string(framed("\x03\x41" + noughts[2:])): api.ErrLong,
	} {
		if got, err := segment.Take([]byte(b)); show(got) != nothing || err != want {
			t.Errorf("%.20x: %s, %v, want %v", b, show(got), err, want)
		}
	}
	if got, err := segment.Take(nil); show(got) != nothing || err != api.ErrForm {
		t.Error(show(got), err)
	}
}

// asTold asks whether bytes are the segment that they are told to be, and the only bytes of it.
func asTold(t *testing.T, b []byte) bool {
	t.Helper()
	got, err := segment.Take(b)
	want, wantErr := plainTake(b)
	if show(got) != show(want) || err != wantErr {
		t.Fatalf("%x: %s, %v, want %s, %v", b, show(got), err, show(want), wantErr)
	}
	if err != nil {
		return false
	}
	if again, err := segment.Put(got); err != nil || !bytes.Equal(again, b) {
		t.Fatalf("%x: put as %x, %v", b, again, err)
	}
	return true
}

// P14.1, P14.2: each short text of these numbers is one segment, or none.
func TestAllShortTexts(t *testing.T) {
	right := 0
	for _, row := range rows([]int{0, 1, 2, 3, 128, addresses - 1}, 6) {
		text := ""
		for _, n := range row {
			if n == 128 {
				text += "\x80"
			} else {
				text += number(uint64(n))
			}
		}
		if asTold(t, framed(text)) {
			right++
		}
	}
	if right < 50 {
		t.Errorf("only %d texts are segments", right)
	}
}

// P14.1, P14.2: a frame that is sealed anew, of which a few bytes were changed, is another segment, or none; one that is spoilt is none.
func TestSpoilt(t *testing.T) {
	r := rand.New(rand.NewSource(6))
	right := 0
	for range 40000 {
		b := framed(spoil(r, meantText(draw(r, 12))))
		if r.Intn(10) == 0 {
			b = []byte(spoil(r, string(b)))
		}
		if asTold(t, b) {
			right++
		}
	}
	if right < 8000 || right > 32000 {
		t.Errorf("%d of 40000 are right", right)
	}
	b := framed(meantText(of(300, hole, data("ab"), data("ac"), trimmed)))
	for i := range 8 * len(b) {
		turned := bytes.Clone(b)
		turned[i/8] ^= 1 << (i % 8)
		if got, err := segment.Take(turned); err == nil || show(got) != nothing {
			t.Errorf("bit %d turned: %s, %v", i, show(got), err)
		}
	}
	for cut := range len(b) {
		if got, err := segment.Take(b[:cut]); err != api.ErrForm || show(got) != nothing {
			t.Errorf("%d bytes: %s, %v", cut, show(got), err)
		}
	}
}
