package manifest_test

import (
	"bytes"
	"crypto/sha256"
	"math"
	"math/rand"
	"strings"
	"testing"

	"holdfast/api"
	"holdfast/manifest"
	"holdfast/sha"
)

// P15.1: Put.

func TestPut(t *testing.T) {
	ahead, first, second := sumOf("ahead"), sumOf("first"), sumOf("second")
	nought := string(none[:])
	for _, c := range []struct {
		m    manifest.Manifest
		text string
	}{
		{manifest.Manifest{}, "\x00\x00\x00\x00" + nought + "\x00"},
		{manifest.Manifest{Number: 1, From: 2, To: 2, Trim: 4}, "\x01\x02\x02\x04" + nought + "\x00"},
		{manifest.Manifest{Number: 300, From: 5, To: 5, Trim: 128, Prev: ahead}, "\xac\x02\x05\x05\x80\x01" + string(ahead[:]) + "\x00"},
		{manifest.Manifest{Number: numbers - 1, From: addresses, To: addresses, Trim: addresses}, "\xbf\x84\x3d\x80\x80\x40\x80\x80\x40\x80\x80\x40" + nought + "\x00"},
		{
			manifest.Manifest{Number: 9, From: 5, To: 72, Trim: 3, Prev: ahead, Parts: []manifest.Part{
				{First: 5, Many: 3, Size: 200, Sum: first},
				{First: 8, Many: 64, Size: mostSize, Sum: second},
			}},
			"\x09\x05\x48\x03" + string(ahead[:]) + "\x02\x03\xc8\x01" + string(first[:]) + "\x40\x80\x80\x04" + string(second[:]),
		},
	} {
		if got, err := manifest.Put(c.m); string(got) != string(framed(c.text)) || err != nil {
			t.Errorf("%s: %x, %v, want %x", brief(c.m), got, err, framed(c.text))
		}
	}
	for _, m := range goodManifests() {
		if got, err := manifest.Put(m); string(got) != string(framed(meantText(m))) || err != nil {
			t.Errorf("%s: %.300x, %v, want %.300x", brief(m), got, err, framed(meantText(m)))
		}
	}
	for _, c := range wrongManifests() {
		if got, err := manifest.Put(c.m); len(got) != 0 || err != c.want {
			t.Errorf("%s: %.300x, %v, want %v", brief(c.m), got, err, c.want)
		}
	}
}

// The chapter's example: number 0, From 0, To 0, no parts: a frame of 37 noughts.
func TestTheFirstOne(t *testing.T) {
	want := framed(strings.Repeat("\x00", 37))
	b, err := manifest.Put(manifest.Manifest{})
	if err != nil || !bytes.Equal(b, want) || len(b) != 42 || b[0] != 37 {
		t.Errorf("%x, %v", b, err)
	}
	if m, err := manifest.Take(want); show(m) != nothing || err != nil {
		t.Error(show(m), err)
	}
}

// P15.1: Digest: of a manifest's bytes, the whole frame.

func TestDigest(t *testing.T) {
	seen := map[sha.Digest]string{}
	for _, m := range goodManifests() {
		got, err := manifest.Digest(m)
		if want := sha256.Sum256(framed(meantText(m))); got != sha.Digest(want) || err != nil {
			t.Errorf("%s: %x, %v, want %x", brief(m), got, err, want)
		}
		if seen[got] != "" {
			t.Errorf("%s: the digest is that of %.300s", brief(m), seen[got])
		}
		seen[got] = show(m)
	}
	for _, c := range wrongManifests() {
		if got, err := manifest.Digest(c.m); got != none || err != c.want {
			t.Errorf("%s: %x, %v, want %v", brief(c.m), got, err, c.want)
		}
	}
}

// P15.2: Put and Take undo one another.
func TestRoundTrip(t *testing.T) {
	list := goodManifests()
	r := rand.New(rand.NewSource(3))
	for range 5000 {
		list = append(list, draw(r, 12))
	}
	for range 20 {
		list = append(list, draw(r, mostParts))
	}
	for _, m := range list {
		b, err := manifest.Put(m)
		if err != nil || string(b) != string(framed(meantText(m))) {
			t.Fatalf("%s: %.300x, %v", brief(m), b, err)
		}
		if got, err := manifest.Take(b); err != nil || !manifest.Same(got, m) || show(got) != show(m) {
			t.Fatalf("%s: %s, %v", brief(m), brief(got), err)
		}
	}
}

type wrongText struct {
	text string
	want error
}

// wrongEnds is what is wrong with the four numbers and the digest that a text begins with: ahead of all that stands behind them.
func wrongEnds() []wrongText {
	const great = math.MaxUint64
	ahead := sumOf("ahead")
	behinds := []string{
		"",
		"\x80",
		string(ahead[:]),
		string(ahead[:]) + number(mostParts+1),
		string(ahead[:]) + number(1, 65),
		string(ahead[:]) + number(0),
	}
	var list []wrongText
	for _, behind := range behinds {
		for _, n := range []uint64{numbers, numbers + 1, 1 << 32, 1<<32 + 1, 1 << 62, 1<<62 + 1, 1 << 63, 1<<63 + 1, great} {
			list = append(list, wrongText{number(n, 5, 8, 2) + behind, api.ErrRange}, wrongText{number(n) + behind, api.ErrRange})
		}
		for _, n := range []uint64{addresses + 1, 1 << 21, 1 << 32, 1<<32 + 5, 1 << 62, 1<<62 + 1, 1 << 63, 1<<63 + 5, great} {
			list = append(list,
				wrongText{number(1, n, 8, 2) + behind, api.ErrRange},
				wrongText{number(1, 5, n, 2) + behind, api.ErrRange},
				wrongText{number(1, 5, 8, n) + behind, api.ErrRange},
				wrongText{number(1, n) + behind, api.ErrRange},
				wrongText{number(1, 5, n) + behind, api.ErrRange},
				wrongText{number(1, 8, 5, n) + behind, api.ErrRange},
				wrongText{number(0, 8, n) + behind, api.ErrRange},
			)
		}
	}
	// Something isn't there, or is no number.
	for _, head := range []string{"", number(1), number(1, 5), number(1, 5, 8)} {
		list = append(list,
			wrongText{head, api.ErrForm},
			wrongText{head + "\x80", api.ErrForm},
			wrongText{head + "\x80\x00" + number(5, 8, 2) + string(ahead[:]) + "\x00", api.ErrForm},
			wrongText{head + strings.Repeat("\xff", 9) + "\x02" + string(ahead[:]) + "\x00", api.ErrForm},
		)
	}
	for cut := range 32 {
		list = append(list, wrongText{number(1, 5, 5, 2) + string(ahead[:cut]), api.ErrForm})
	}
	return append(list,
		wrongText{number(1, 5, 5, 2) + string(ahead[:]), api.ErrForm},
		wrongText{number(1, 5, 5, 2) + string(ahead[:]) + "\x80", api.ErrForm},
		wrongText{number(1, 5, 5, 2) + string(ahead[:]) + "\x80\x00", api.ErrForm},
		wrongText{number(numbers-1, addresses, addresses, addresses) + string(ahead[:]), api.ErrForm},
	)
}

// wrongRows is what is wrong with the parts, as they are taken, and then with what is left, and with what Check says.
func wrongRows() []wrongText {
	const great = math.MaxUint64
	ahead, sum := sumOf("ahead"), sumOf("part")
	part := func(many, size uint64) string { return number(many, size) + string(sum[:]) }
	head := number(1, 5, 8, 2) + string(ahead[:])
	zero := number(0, 5, 8, 2) + string(ahead[:])
	back := number(1, 8, 5, 2) + string(ahead[:])
	list := []wrongText{
		// How many there are.
		{head + number(mostParts+1), api.ErrLong},
		{head + number(mostParts+1) + "\x80", api.ErrLong},
		{head + number(mostParts+1) + strings.Repeat(part(1, 1), mostParts+1), api.ErrLong},
		{head + number(2*mostParts, 65, 0), api.ErrLong},
		{head + number(1<<32), api.ErrLong},
		{head + number(1<<32+1) + part(3, 7), api.ErrLong},
		{head + number(1<<63) + part(3, 7), api.ErrLong},
		{head + number(great), api.ErrLong},
		{zero + number(mostParts+1), api.ErrLong},
		{back + number(mostParts+1), api.ErrLong},
		{head + number(mostParts), api.ErrForm},
		{head + number(mostParts) + strings.Repeat(part(1, 1), mostParts-1), api.ErrForm},
		// A part's numbers.
		{head + number(1, 65), api.ErrRange},
		{head + number(1, 65, 0), api.ErrRange},
		{head + number(1) + part(65, 7), api.ErrRange},
		{head + number(1) + part(1<<32+3, 7), api.ErrRange},
		{head + number(1) + part(1<<63+3, 7), api.ErrRange},
		{head + number(1) + part(great, 7), api.ErrRange},
		{head + number(1, 65) + "\x80", api.ErrRange},
		{head + number(1) + part(3, mostSize+1), api.ErrRange},
		{head + number(1, 3, mostSize+1), api.ErrRange},
		{head + number(1) + part(3, 1<<32+7), api.ErrRange},
		{head + number(1) + part(3, 1<<63+7), api.ErrRange},
		{head + number(1) + part(3, great), api.ErrRange},
		{head + number(2) + part(3, 7) + number(65), api.ErrRange},
		{head + number(2) + part(3, 7) + number(1, mostSize+1), api.ErrRange},
		{head + number(2) + part(0, 7) + number(65), api.ErrRange},
		{head + number(2) + part(65, 7) + "\x80", api.ErrRange},
		// Something isn't there, or is no number.
		{head + number(1), api.ErrForm},
		{head + number(1) + "\x80", api.ErrForm},
		{head + number(1) + "\x83\x00" + number(7) + string(sum[:]), api.ErrForm},
		{head + number(1, 3), api.ErrForm},
		{head + number(1, 3) + "\x87\x00" + string(sum[:]), api.ErrForm},
		{head + number(1, 3, 7), api.ErrForm},
		{head + number(1, 3, 7) + string(sum[:31]), api.ErrForm},
		{head + number(1, 0, 0), api.ErrForm},
		{head + number(1, 0, 0) + string(sum[:31]), api.ErrForm},
		{head + number(2) + part(3, 7), api.ErrForm},
		{head + number(2) + part(0, 7), api.ErrForm},
		{head + number(2) + part(3, 0) + "\x80", api.ErrForm},
		{head + number(2) + part(3, 7) + "\xc1", api.ErrForm},
		// Something is left: ahead of what Check says.
		{number(1, 5, 5, 2) + string(ahead[:]) + number(0, 0), api.ErrForm},
		{head + number(1) + part(3, 7) + "\x00", api.ErrForm},
		{head + number(1) + part(3, 7) + "\x80", api.ErrForm},
		{head + number(1) + part(3, 7) + part(3, 7), api.ErrForm},
		{head + number(1) + part(3, 7) + number(65), api.ErrForm},
		{head + number(1) + part(0, 7) + "\x00", api.ErrForm},
		{head + number(1) + part(3, 0) + "\x00", api.ErrForm},
		// What Check says.
		{head + number(1) + part(0, 7), api.ErrRange},
		{head + number(1) + part(3, 0), api.ErrRange},
		{head + number(2) + part(3, 7) + part(0, 7), api.ErrRange},
		{head + number(2) + part(4, 7) + part(3, 0), api.ErrRange},
		{head + number(0), api.ErrForm},
		{head + number(1) + part(2, 7), api.ErrForm},
		{head + number(1) + part(4, 7), api.ErrForm},
		{head + number(2) + part(3, 7) + part(1, 7), api.ErrForm},
		{zero + number(1) + part(3, 7), api.ErrForm},
		{zero + number(1) + part(0, 7), api.ErrForm},
		{back + number(0), api.ErrForm},
		{back + number(1) + part(3, 7), api.ErrForm},
		{back + number(1) + part(0, 7), api.ErrForm},
	}
	return append(list, wrongText{number(1, addresses, addresses, 2) + string(ahead[:]) + number(1) + part(1, 7), api.ErrForm})
}

// P15.1: Take.

func TestTake(t *testing.T) {
	for _, c := range append(wrongEnds(), wrongRows()...) {
		b := framed(c.text)
		if got, err := manifest.Take(b); show(got) != nothing || err != c.want {
			t.Errorf("%.100x: %s, %v, want %v", c.text, brief(got), err, c.want)
		}
		if _, err := plainTake(b); err != c.want {
			t.Errorf("%.100x: told anew: %v, want %v", c.text, err, c.want)
		}
	}
	for _, m := range goodManifests() {
		if got, err := manifest.Take(framed(meantText(m))); show(got) != show(m) || err != nil {
			t.Errorf("%s: %s, %v", brief(m), brief(got), err)
		}
	}
	// What isn't a manifest, but has bytes all the same, is told as Check tells it: Take asks for no more than the numbers' bounds ahead of that.
	for _, c := range wrongManifests() {
		told, want := plainTake(framed(meantText(c.m)))
		if got, err := manifest.Take(framed(meantText(c.m))); show(got) != show(told) || err != want {
			t.Errorf("%s: %s, %v, want %v", brief(c.m), brief(got), err, want)
		}
	}
}

// P15.1: One's errors go ahead of all that is in the frame.
func TestTakeOfNoFrame(t *testing.T) {
	good := string(framed(meantText(of(3, 10, 2, 3))))
	bad := string(framed(number(numbers)))
	turned := []byte(good)
	turned[len(turned)-1] ^= 1
	turnedBad := []byte(bad)
	turnedBad[len(turnedBad)-1] ^= 1
	noughts := strings.Repeat("\x00", longest)
	for b, want := range map[string]error{
		"":                               api.ErrForm,
		"\x80":                           api.ErrForm,
		"\x80\x00":                       api.ErrForm,
		good[:len(good)-1]:               api.ErrForm,
		good[:1]:                         api.ErrForm,
		good + "\x00":                    api.ErrForm,
		good + good:                      api.ErrForm,
		bad:                              api.ErrRange,
		bad + "\x00":                     api.ErrForm,
		bad[:len(bad)-1]:                 api.ErrForm,
		string(turned):                   api.ErrSum,
		string(turnedBad):                api.ErrSum,
		string(turned) + "\x00":          api.ErrSum,
		meantText(of(3, 10, 2)):          api.ErrSum,
		meantText(of(300, 10, 2)):        api.ErrForm,
		number(longest):                  api.ErrForm,
		number(longest + 1):              api.ErrLong,
		number(math.MaxUint64):           api.ErrLong,
		string(framed("")):               api.ErrForm,
		string(framed(noughts)):          api.ErrForm,
		string(framed(noughts + "\x00")): api.ErrLong,
		string(framed(noughts[:36])):     api.ErrForm,
		string(framed(noughts[:38])):     api.ErrForm,
	} {
		if got, err := manifest.Take([]byte(b)); show(got) != nothing || err != want {
			t.Errorf("%.20x: %s, %v, want %v", b, brief(got), err, want)
		}
	}
	if got, err := manifest.Take(nil); show(got) != nothing || err != api.ErrForm {
		t.Error(brief(got), err)
	}
}

// asTold asks whether bytes are the manifest that they are told to be, and the only bytes of it.
func asTold(t *testing.T, b []byte) bool {
	t.Helper()
	got, err := manifest.Take(b)
	want, wantErr := plainTake(b)
	if show(got) != show(want) || err != wantErr {
		t.Fatalf("%.300x: %s, %v, want %s, %v", b, brief(got), err, brief(want), wantErr)
	}
	if err != nil {
		return false
	}
	if again, err := manifest.Put(got); err != nil || !bytes.Equal(again, b) {
		t.Fatalf("%.300x: put as %.300x, %v", b, again, err)
	}
	return true
}

// P15.1, P15.2: a text of few numbers around the edges is one manifest, or none.
func TestSmallTexts(t *testing.T) {
	sum := sumOf("part")
	right := 0
	ends := []uint64{0, 2, 3, addresses, addresses + 1}
	for _, n := range []uint64{0, 1, numbers - 1, numbers} {
		for _, from := range ends {
			for _, to := range ends {
				for _, ahead := range []sha.Digest{none, sumOf("ahead")} {
					head := number(n, from, to, 1) + string(ahead[:])
					for _, tail := range tails(string(sum[:])) {
						if asTold(t, framed(head+tail)) {
							right++
						}
					}
				}
			}
		}
	}
	if right < 50 {
		t.Errorf("only %d texts are manifests", right)
	}
}

// tails is up to two parts of few numbers, and how many there are said to be.
func tails(sum string) []string {
	list := []string{""}
	bodies := []string{""}
	for _, many := range []uint64{0, 1, 2, 3, 65} {
		for _, size := range []uint64{0, 1, mostSize, mostSize + 1} {
			bodies = append(bodies, number(many, size)+sum)
		}
	}
	for _, a := range bodies {
		for _, b := range bodies[:9] {
			for parts := range uint64(3) {
				list = append(list, number(parts)+a+b)
			}
		}
	}
	return list
}

// P15.1, P15.2: a frame that is sealed anew, of which a few bytes were changed, is another manifest, or none.
func TestSealedAnew(t *testing.T) {
	r := rand.New(rand.NewSource(4))
	right := 0
	for range 40000 {
		b := framed(spoil(r, meantText(draw(r, 4))))
		if r.Intn(10) == 0 {
			b = []byte(spoil(r, string(b)))
		}
		if asTold(t, b) {
			right++
		}
	}
	if right < 8000 || right > 32000 {
		t.Errorf("%d of 40000 are right", right)
	}
}

// P15.1: what was spoilt, or cut off, is none.
func TestSpoilt(t *testing.T) {
	b := framed(meantText(of(300, 1000, 2, 64, 1)))
	for i := range 8 * len(b) {
		turned := bytes.Clone(b)
		turned[i/8] ^= 1 << (i % 8)
		if got, err := manifest.Take(turned); err == nil || show(got) != nothing {
			t.Errorf("bit %d turned: %s, %v", i, show(got), err)
		}
	}
	for cut := range len(b) {
		if got, err := manifest.Take(b[:cut]); err != api.ErrForm || show(got) != nothing {
			t.Errorf("%d bytes: %s, %v", cut, show(got), err)
		}
	}
}
