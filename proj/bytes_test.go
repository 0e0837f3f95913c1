package proj_test

import (
	"bytes"
	"math"
	"math/rand"
	"testing"

	"holdfast/api"
	"holdfast/proj"
)

// P11.1: Put.

func TestPut(t *testing.T) {
	for _, c := range []struct {
		p    proj.Projection
		text string
	}{
		{of(0, chain(0)), "\x00\x01\x01\x00"},
		{of(300, chain(7)), "\xac\x02\x01\x01\x07"},
		{of(1, chain(0, 1), chain(2, 3)), "\x01\x02\x02\x00\x01\x02\x02\x03"},
		{of(2, chain(3, 1, 0, 2), chain(7)), "\x02\x02\x04\x03\x01\x00\x02\x01\x07"},
		{of(5, chain(0), chain(1), chain(2), chain(3)), "\x05\x04\x01\x00\x01\x01\x01\x02\x01\x03"},
		{of(epochs, chain(4)), "\x80\x80\x80\x80\x80\x20\x01\x01\x04"},
	} {
		if got, err := proj.Put(c.p); string(got) != string(framed(c.text)) || err != nil {
			t.Errorf("%s: %x, %v, want %x", show(c.p), got, err, framed(c.text))
		}
	}
	for _, p := range goodProjections() {
		if got, err := proj.Put(p); string(got) != string(framed(meantText(p))) || err != nil {
			t.Errorf("%s: %x, %v, want %x", show(p), got, err, framed(meantText(p)))
		}
	}
	for _, c := range wrongProjections() {
		if got, err := proj.Put(c.p); len(got) != 0 || err != c.want {
			t.Errorf("%s: %x, %v, want %v", show(c.p), got, err, c.want)
		}
	}
}

// P11.2: Put and Take undo one another.
func TestRoundTrip(t *testing.T) {
	back := func(p proj.Projection) {
		t.Helper()
		b, err := proj.Put(p)
		if err != nil {
			t.Fatal(show(p), err)
		}
		if got, err := proj.Take(b); err != nil || !proj.Same(got, p) || show(got) != show(p) {
			t.Fatalf("%s: %s, %v", show(p), show(got), err)
		}
	}
	for _, p := range goodProjections() {
		back(p)
	}
	for _, chains := range layouts(4, 4, 4) {
		back(of(1, chains...))
	}
	r := rand.New(rand.NewSource(12))
	for range 20000 {
		back(draw(r))
	}
}

// wrongTexts is what is in a frame and no projection, and what is said of it.
func wrongTexts() map[string]error {
	const great = math.MaxUint64
	return map[string]error{
		// Something isn't there, or is no number.
		"":                             api.ErrForm,
		"\x80":                         api.ErrForm,
		"\x00":                         api.ErrForm,
		"\x80\x00\x01\x01\x00":         api.ErrForm,
		"\x00\x81\x00\x01\x00":         api.ErrForm,
		"\x00\x01\x81\x00\x00":         api.ErrForm,
		"\x00\x01\x01\x80\x00":         api.ErrForm,
		number(0, 1):                   api.ErrForm,
		number(0, 1, 1):                api.ErrForm,
		number(0, 1, 4, 0, 1, 2):       api.ErrForm,
		number(0, 2, 1, 0):             api.ErrForm,
		number(0, 4, 1, 0, 1, 1):       api.ErrForm,
		number(0, 1, 1) + "\xff":       api.ErrForm,
		number(0, 2, 1, 0) + "\x82":    api.ErrForm,
		number(0, 2, 1, 0, 1) + "\x0c": api.ErrRange,
		// The epoch.
		number(epochs + 1):                   api.ErrRange,
		number(epochs+1, 1, 1, 0):            api.ErrRange,
		number(epochs+1, 5):                  api.ErrRange,
		number(epochs+1, 0):                  api.ErrRange,
		number(epochs+1, 1, 1, 0, 0):         api.ErrRange,
		number(great, 1, 1, 0):               api.ErrRange,
		number(1<<63, 1, 1, 0):               api.ErrRange,
		number(1<<62+1, 1, 1, 0):             api.ErrRange,
		number(epochs+1) + "\x80":            api.ErrRange,
		number(epochs+1, 2, 5) + "\x80":      api.ErrRange,
		number(epochs, 1, 1, 0) + "\x80":     api.ErrForm,
		number(epochs, 1, 1, 0) + "\x00":     api.ErrForm,
		number(epochs, 1, 1, 0) + "\x01\x00": api.ErrForm,
		// How many chains.
		number(0, 0):                            api.ErrForm,
		number(0, 0, 0):                         api.ErrForm,
		number(0, 0, 1, 0):                      api.ErrForm,
		number(0, 5):                            api.ErrLong,
		number(0, 5, 1, 0, 1, 1, 1, 2, 1, 3):    api.ErrLong,
		number(0, 5, 1, 0, 1, 1, 1, 2, 1, 3, 1): api.ErrLong,
		number(0, 5, 5):                         api.ErrLong,
		number(0, 128):                          api.ErrLong,
		number(0, 1<<32+1, 1, 0):                api.ErrLong,
		number(0, 1<<63, 1, 0):                  api.ErrLong,
		number(0, 1<<63+1, 1, 0):                api.ErrLong,
		number(0, great):                        api.ErrLong,
		number(0, 5, 1, 9):                      api.ErrLong,
		// How many units: told where it stands, ahead of what is behind it, and behind what is ahead.
		number(0, 1, 0):                                api.ErrForm,
		number(0, 1, 0, 0):                             api.ErrForm,
		number(0, 2, 0, 1, 0):                          api.ErrForm,
		number(0, 2, 1, 0, 0):                          api.ErrForm,
		number(0, 1, 5):                                api.ErrLong,
		number(0, 1, 5, 0, 1, 2, 3, 4):                 api.ErrLong,
		number(0, 1, 5, 0, 1, 2, 3, 4, 5):              api.ErrLong,
		number(0, 1, great):                            api.ErrLong,
		number(0, 1, 1<<32+1, 0):                       api.ErrLong,
		number(0, 1, 1<<63, 0):                         api.ErrLong,
		number(0, 2, 5, 0) + "\x80":                    api.ErrLong,
		number(0, 2, 1, 0, 5):                          api.ErrLong,
		number(0, 2, 1, 9, 5):                          api.ErrLong,
		number(0, 2, 1, great, 5):                      api.ErrLong,
		number(0, 2, 2, 0, 0, 5):                       api.ErrLong,
		number(0, 2, 0, 5):                             api.ErrLong,
		number(0, 4, 1, 0, 1, 1, 1, 2, 5, 3, 4, 5, 6):  api.ErrLong,
		number(0, 2, 1) + "\x80\x00" + number(5):       api.ErrForm,
		number(0, 2, 4, 0, 1, 2) + "\x80\x00" + "\x05": api.ErrForm,
		// Something is left: ahead of what Check says.
		number(0, 1, 1, 0, 0):              api.ErrForm,
		number(0, 1, 1, 8, 0):              api.ErrForm,
		number(0, 1, 1, great, 0):          api.ErrForm,
		number(0, 1, 1, 0, 1, 1):           api.ErrForm,
		number(0, 1, 2, 0, 0, 0):           api.ErrForm,
		number(0, 2, 1, 8, 1):              api.ErrForm,
		number(0, 1, 1, 0) + "\xff\xff":    api.ErrForm,
		number(0, 1, 1, 9) + "\xff\xff":    api.ErrForm,
		number(0, 1, 1, 0) + number(great): api.ErrForm,
		// What Check says.
		number(0, 1, 1, 8):                               api.ErrRange,
		number(0, 1, 1, 127):                             api.ErrRange,
		number(0, 1, 1, 128):                             api.ErrRange,
		number(0, 1, 1, 256):                             api.ErrRange,
		number(0, 1, 1, 1<<32):                           api.ErrRange,
		number(0, 1, 1, 1<<32+1):                         api.ErrRange,
		number(0, 1, 1, 1<<63):                           api.ErrRange,
		number(0, 1, 1, 1<<63+1):                         api.ErrRange,
		number(0, 1, 1, great):                           api.ErrRange,
		number(0, 1, 2, great, great):                    api.ErrRange,
		number(0, 1, 3, 0, 0, 8):                         api.ErrRange,
		number(0, 2, 2, 0, 0, 1, 8):                      api.ErrRange,
		number(0, 2, 1, 8, 0):                            api.ErrForm,
		number(0, 2, 0, 1, 8):                            api.ErrForm,
		number(0, 1, 2, 0, 0):                            api.ErrForm,
		number(0, 2, 1, 0, 1, 0):                         api.ErrForm,
		number(0, 4, 2, 0, 1, 2, 2, 3, 2, 4, 5, 2, 6, 0): api.ErrForm,
	}
}

// P11.1: Take.

func TestTake(t *testing.T) {
	for text, want := range wrongTexts() {
		b := framed(text)
		if got, err := proj.Take(b); show(got) != show(proj.Projection{}) || err != want {
			t.Errorf("%x: %s, %v, want %v", text, show(got), err, want)
		}
		if _, err := plainTake(b); err != want {
			t.Errorf("%x: told anew: %v, want %v", text, err, want)
		}
	}
	for _, p := range goodProjections() {
		if got, err := proj.Take(framed(meantText(p))); show(got) != show(p) || err != nil {
			t.Errorf("%s: %s, %v", show(p), show(got), err)
		}
	}
}

// P11.1: One's errors go ahead of all that is in the frame.
func TestTakeOfNoFrame(t *testing.T) {
	good := string(framed(meantText(of(3, chain(0, 1), chain(2, 3)))))
	bad := string(framed(number(epochs + 1)))
	turned := []byte(good)
	turned[len(turned)-1] ^= 1
	long := string(make([]byte, longest))
	for b, want := range map[string]error{
		"":                                    api.ErrForm,
		"\x80":                                api.ErrForm,
		"\x80\x00":                            api.ErrForm,
		good[:len(good)-1]:                    api.ErrForm,
		good + "\x00":                         api.ErrForm,
		good + good:                           api.ErrForm,
		bad + "\x00":                          api.ErrForm,
		bad:                                   api.ErrRange,
		string(turned):                        api.ErrSum,
		string(turned) + "\x00":               api.ErrSum,
		number(longest):                       api.ErrForm,
		number(longest + 1):                   api.ErrLong,
		number(math.MaxUint64):                api.ErrLong,
		string(framed(long)):                  api.ErrForm,
		string(framed(long)) + "\x00":         api.ErrForm,
		string(framed(long + "\x00")):         api.ErrLong,
		string(framed("\x00\x05" + long[2:])): api.ErrLong,
	} {
		if got, err := proj.Take([]byte(b)); show(got) != show(proj.Projection{}) || err != want {
			t.Errorf("%.20x: %s, %v, want %v", b, show(got), err, want)
		}
	}
}

// asTold asks whether bytes are the projection that they are told to be, and the only bytes of it.
func asTold(t *testing.T, b []byte) bool {
	t.Helper()
	got, err := proj.Take(b)
	want, wantErr := plainTake(b)
	if show(got) != show(want) || err != wantErr {
		t.Fatalf("%x: %s, %v, want %s, %v", b, show(got), err, show(want), wantErr)
	}
	if err != nil {
		return false
	}
	if again, err := proj.Put(got); err != nil || !bytes.Equal(again, b) {
		t.Fatalf("%x: put as %x, %v", b, again, err)
	}
	return true
}

// P11.1, P11.2: each short text of these numbers is one projection, or none.
func TestAllShortTexts(t *testing.T) {
	right := 0
	for _, row := range rows([]int{0, 1, 2, 4, 5, 8, 128}, 6) {
		text := ""
		for _, n := range row {
			if n == 128 {
				text += "\x80"
			} else {
				text += number(uint64(n))
			}
		}
		if asTold(t, framed(text)) {
			right++
		}
	}
	if right == 0 {
		t.Error("no text is a projection")
	}
}

// P11.1, P11.2: a frame that is sealed anew, of which a few bytes were changed, is another projection, or none; one that is spoilt is none.
func TestSpoilt(t *testing.T) {
	r := rand.New(rand.NewSource(13))
	right := 0
	for range 50000 {
		b := framed(spoil(r, meantText(draw(r))))
		if r.Intn(10) == 0 {
			b = []byte(spoil(r, string(b)))
		}
		if asTold(t, b) {
			right++
		}
	}
	if right < 10000 {
		t.Errorf("only %d of 50000 are right", right)
	}
	b := framed(meantText(of(300, chain(0, 1), chain(7, 2, 3))))
	for i := range 8 * len(b) {
		turned := bytes.Clone(b)
		turned[i/8] ^= 1 << (i % 8)
		if got, err := proj.Take(turned); err == nil || show(got) != show(proj.Projection{}) {
			t.Errorf("bit %d turned: %s, %v", i, show(got), err)
		}
	}
}

// P11.1: the bytes that are handed in stay, and aren't kept.
func TestTakeLeavesItsBytesAlone(t *testing.T) {
	room := append(framed(meantText(of(3, chain(0, 1), chain(2)))), 9, 9, 9)
	b := room[:len(room)-3]
	was := bytes.Clone(room)
	got, err := proj.Take(b)
	if err != nil || !bytes.Equal(room, was) {
		t.Fatal(err, room)
	}
	clear(room)
	if show(got) != show(of(3, chain(0, 1), chain(2))) {
		t.Error(show(got))
	}
}
