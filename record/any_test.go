package record_test

import (
	"bytes"
	"math/rand"
	"testing"

	"holdfast/record"
	"holdfast/unit"
)

// P9.2: what is put is taken as it was.
func TestRoundTrip(t *testing.T) {
	r := rand.New(rand.NewSource(9))
	for range 20000 {
		a := drawAct(r)
		b, err := record.Put(a)
		if err != nil || !bytes.Equal(b, meantAct(a)) {
			t.Fatalf("%s: %x, %v", showAct(a), b, err)
		}
		if got, err := record.Take(b); err != nil || showAct(got) != showAct(a) {
			t.Fatalf("%s: %s, %v", showAct(a), showAct(got), err)
		}
	}
	for range 5000 {
		u := drawUnit(t, r)
		before := showUnit(u)
		b, err := record.PutUnit(u)
		if err != nil {
			t.Fatal(before, err)
		}
		if got, err := record.TakeUnit(b); err != nil || !unit.Same(got, u) || showUnit(got) != before {
			t.Fatalf("%s: %s, %v", before, showUnit(got), err)
		}
	}
}

// asTold asks whether bytes are the act that they are told to be, and the only bytes of it.
func asTold(t *testing.T, b []byte) {
	t.Helper()
	got, err := record.Take(b)
	want, wantErr := plainAct(b)
	if showAct(got) != showAct(want) || err != wantErr {
		t.Fatalf("%x: %s, %v, want %s, %v", b, showAct(got), err, showAct(want), wantErr)
	}
	if err != nil {
		return
	}
	if again, err := record.Put(got); err != nil || !bytes.Equal(again, b) {
		t.Fatalf("%x: put as %x, %v", b, again, err)
	}
}

// asToldUnit asks the same of a unit's bytes.
func asToldUnit(t *testing.T, b []byte) {
	t.Helper()
	got, err := record.TakeUnit(b)
	want, wantErr := plainUnit(b)
	if showUnit(got) != want || err != wantErr {
		t.Fatalf("%x: %s, %v, want %s, %v", b, showUnit(got), err, want, wantErr)
	}
	if err != nil {
		return
	}
	if again, err := record.PutUnit(got); err != nil || !bytes.Equal(again, b) {
		t.Fatalf("%x: put as %x, %v", b, again, err)
	}
}

// P9.2: a frame that is sealed anew, of which a few bytes were changed, is another act, or none.
func TestSpoiltActs(t *testing.T) {
	r := rand.New(rand.NewSource(19))
	for range 50000 {
		good := meantAct(drawAct(r))
		text := spoil(r, string(good[1:len(good)-4]))
		b := framed(text)
		if r.Intn(10) == 0 {
			b = []byte(spoil(r, string(b)))
		}
		asTold(t, b)
	}
}

func TestSpoiltUnits(t *testing.T) {
	r := rand.New(rand.NewSource(29))
	for range 50000 {
		low := drawLow(r)
		text := spoil(r, meantText(r.Intn(300), low, drawEntries(r, low, r.Intn(3) == 0)))
		b := framed(text)
		if r.Intn(10) == 0 {
			b = []byte(spoil(r, string(b)))
		}
		asToldUnit(t, b)
	}
}

// P9.1: acts one behind the other do what the unit's own calls do.
func TestAnyOrder(t *testing.T) {
	for seed := range int64(300) {
		r := rand.New(rand.NewSource(seed))
		u, again := unit.New(), unit.New()
		for range 60 {
			a := drawAct(r)
			if a.Kind > 1 && r.Intn(8) > 0 {
				a.Epoch = u.Epoch()
				a.Address = r.Intn(12)
			} else if a.Kind == 1 && r.Intn(4) > 0 {
				a.Epoch = u.Epoch() + r.Intn(2)
			}
			if a.Kind == 1 && a.Epoch > 1<<32 { // else soon no later epoch is left
				continue
			}
			n, err := record.Apply(u, a)
			want, wantErr := direct(again, a)
			if n != want || err != wantErr || !unit.Same(u, again) {
				t.Fatalf("seed %d: %s: %d, %v, want %d, %v", seed, showAct(a), n, err, want, wantErr)
			}
		}
	}
}
