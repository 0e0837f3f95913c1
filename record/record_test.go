package record_test

import (
	"bytes"
	"fmt"
	"math"
	"testing"

	"holdfast/api"
	"holdfast/cell"
	"holdfast/record"
	"holdfast/unit"
)

// goodActs is acts, no two of them the same: each kind at its edges.
func goodActs() []record.Act {
	list := []record.Act{seal(0), seal(1), seal(127), seal(128), seal(epochs - 1), seal(epochs)}
	for _, epoch := range []int{0, 1, 300, epochs} {
		for _, address := range []int{0, 1, 127, 128, addresses - 1} {
			list = append(list, fill(epoch, address), trim(epoch, address), cut(epoch, address))
			for _, text := range []string{"", "a", "ab", "\x00", long(63), long(64)} {
				list = append(list, write(epoch, address, text))
			}
		}
		list = append(list, trim(epoch, addresses), cut(epoch, addresses))
	}
	return list
}

type fault struct {
	a    record.Act
	want error
}

// wrongActs is what is no act, and what is said of it.
func wrongActs() []fault {
	many := func(kind, epoch, address, n int) record.Act {
		return record.Act{Kind: kind, Epoch: epoch, Address: address, Data: make([]byte, n)}
	}
	list := []fault{
		{record.Act{}, api.ErrRange},
		{many(6, 1, 0, 0), api.ErrRange},
		{many(-1, 1, 0, 0), api.ErrRange},
		{write(-1, 0, ""), api.ErrRange},
		{write(epochs+1, 0, ""), api.ErrRange},
		{write(0, -1, ""), api.ErrRange},
		{write(0, addresses, ""), api.ErrRange},
		{fill(0, addresses), api.ErrRange},
		{trim(0, addresses+1), api.ErrRange},
		{cut(0, addresses+1), api.ErrRange},
		{write(0, 0, long(65)), api.ErrLong},
		// A Seal has no address, but how great it is is asked ahead of that.
		{many(1, 1, 1, 0), api.ErrForm},
		{many(1, 1, addresses, 0), api.ErrForm},
		{many(1, 1, addresses+1, 0), api.ErrRange},
		{many(1, 1, -1, 0), api.ErrRange},
		{many(1, 1, 1, 65), api.ErrLong},
		// What goes ahead of the data's length, and what doesn't.
		{write(0, addresses, long(65)), api.ErrRange},
		{write(epochs+1, 0, long(65)), api.ErrRange},
		{many(6, 0, 0, 65), api.ErrRange},
	}
	for _, kind := range []int{record.Seal, record.Fill, record.Trim, record.Cut} {
		list = append(list,
			fault{many(kind, 0, 0, 1), api.ErrForm},
			fault{many(kind, 0, 0, 64), api.ErrForm},
			fault{many(kind, 0, 0, 65), api.ErrLong},
			fault{many(kind, math.MaxInt, 0, 65), api.ErrRange},
		)
	}
	return list
}

// wrongTexts is what is in a frame and no act, and what is said of it.
func wrongTexts() map[string]error {
	return map[string]error{
		"":                                   api.ErrForm,
		"\x01":                               api.ErrForm,
		"\x81\x00\x01":                       api.ErrForm, // 1 is told in two bytes
		"\x00":                               api.ErrRange,
		"\x00\x01":                           api.ErrRange,
		"\x06\x01\x00":                       api.ErrRange,
		number(math.MaxUint64, 0):            api.ErrRange,
		number(1<<32+1, 0):                   api.ErrRange,
		number(1, epochs+1):                  api.ErrRange,
		number(6, epochs+1):                  api.ErrRange,
		"\x01\x80":                           api.ErrForm,
		"\x01\x01\x00":                       api.ErrForm, // a Seal has no address
		"\x03\x01":                           api.ErrForm,
		"\x03\x01\x01\x00":                   api.ErrForm, // and a Fill no data
		"\x04\x01\x01\x00":                   api.ErrForm,
		"\x05\x01\x01\x00":                   api.ErrForm,
		"\x02\x01\x01":                       api.ErrForm,
		"\x02\x01\x01\x02a":                  api.ErrForm,
		"\x02\x01\x01\x01ab":                 api.ErrForm,
		"\x02\x01\x01\x41":                   api.ErrLong,
		number(2, epochs+1, addresses+1, 65): api.ErrRange,
		number(2, 1, addresses+1, 65):        api.ErrRange,
		number(4, 1, addresses+1):            api.ErrRange,
		number(5, 1, addresses+1):            api.ErrRange,
		number(5, 1, math.MaxUint64):         api.ErrRange,
		// What is wrong ahead is told ahead of what is wrong behind.
		number(1, epochs+1, 0):       api.ErrRange,
		number(2, epochs+1, 0, 65):   api.ErrRange,
		number(2, epochs+1):          api.ErrRange,
		number(2, 1, addresses+1):    api.ErrRange,
		number(4, 1, addresses+1, 0): api.ErrRange,
		// The address behind the last cell is told last.
		number(2, 1, addresses, 0):       api.ErrRange,
		number(3, 1, addresses):          api.ErrRange,
		number(2, 1, addresses, 65):      api.ErrLong,
		number(2, 1, addresses, 0) + "a": api.ErrForm,
		number(2, 1, addresses):          api.ErrForm,
		number(3, 1, addresses) + "a":    api.ErrForm,
	}
}

func isZero(a record.Act) bool {
	return a.Kind == 0 && a.Epoch == 0 && a.Address == 0 && a.Data == nil
}

func TestKinds(t *testing.T) {
	if record.Seal != 1 || record.Write != 2 || record.Fill != 3 || record.Trim != 4 || record.Cut != 5 {
		t.Error(record.Seal, record.Write, record.Fill, record.Trim, record.Cut)
	}
}

// P9.1: Word.
func TestWord(t *testing.T) {
	words := map[int]string{1: "seal", 2: "write", 3: "fill", 4: "trim", 5: "cut"}
	for _, kind := range kinds() {
		if got := record.Word(kind); got != words[kind] {
			t.Errorf("Word(%d) = %q", kind, got)
		}
	}
}

// P9.1: Check.

func TestCheck(t *testing.T) {
	for _, a := range goodActs() {
		if err := record.Check(a); err != nil {
			t.Errorf("%s: %v", showAct(a), err)
		}
	}
	for _, c := range wrongActs() {
		if err := record.Check(c.a); err != c.want {
			t.Errorf("%s: %v, want %v", showAct(c.a), err, c.want)
		}
	}
	// A list of no bytes is none, whatever the kind.
	for kind := 1; kind <= 5; kind++ {
		if err := record.Check(record.Act{Kind: kind, Data: []byte{}}); err != nil {
			t.Error(kind, err)
		}
	}
}

func TestCheckOfAllTogether(t *testing.T) {
	for _, a := range someActs() {
		if err := record.Check(a); err != plainCheck(a) {
			t.Fatalf("%s: %v, want %v", showAct(a), err, plainCheck(a))
		}
	}
}

// P9.1: Put. A Seal of epoch 1 is a frame of 1, 1, as the chapter's example has it.
func TestPut(t *testing.T) {
	if b, err := record.Put(seal(1)); err != nil || string(b) != string(framed("\x01\x01")) {
		t.Errorf("%x, %v", b, err)
	}
	b, err := record.Put(write(300, 3, "ab"))
	if err != nil || string(b) != string(framed("\x02\xac\x02\x03\x02ab")) {
		t.Errorf("%x, %v", b, err)
	}
	for _, a := range goodActs() {
		if b, err := record.Put(a); err != nil || !bytes.Equal(b, meantAct(a)) {
			t.Errorf("%s: %x, %v", showAct(a), b, err)
		}
	}
	for _, c := range wrongActs() {
		if b, err := record.Put(c.a); b != nil || err != c.want {
			t.Errorf("%s: %x, %v, want %v", showAct(c.a), b, err, c.want)
		}
	}
}

// P9.1: Take.

func TestTake(t *testing.T) {
	for _, a := range goodActs() {
		if got, err := record.Take(meantAct(a)); err != nil || showAct(got) != showAct(a) {
			t.Errorf("%s: %s, %v", showAct(a), showAct(got), err)
		}
	}
	for text, want := range wrongTexts() {
		if a, err := record.Take(framed(text)); !isZero(a) || err != want {
			t.Errorf("%x: %s, %v, want %v", text, showAct(a), err, want)
		}
		if _, err := plainAct(framed(text)); err != want {
			t.Errorf("%x: the one told anew says %v, want %v", text, err, want)
		}
	}
}

func TestTakeOfSpoiltFrames(t *testing.T) {
	for text, want := range spoiltFrames("\x02\x01\x03\x02ab") {
		if a, err := record.Take([]byte(text)); !isZero(a) || err != want {
			t.Errorf("%.40x: %s, %v, want %v", text, showAct(a), err, want)
		}
	}
	good := meantAct(write(1, 3, "ab"))
	for n := range good {
		if a, err := record.Take(good[:n]); !isZero(a) || err != api.ErrForm {
			t.Errorf("%d bytes: %s, %v", n, showAct(a), err)
		}
	}
	// A text is in a frame of its own: none is taken bare.
	if _, err := record.Take([]byte("\x01\x01")); err == nil {
		t.Error("no frame")
	}
}

// P9.2: each row of bytes is one act, at most: whatever is taken is put as it was.
func TestTakeOfAllRows(t *testing.T) {
	for _, text := range rows("\x00\x01\x02\x03\x04\x05\x06\x80\x41", 5) {
		asTold(t, framed(text))
	}
}

// P9.1: Apply.

// direct is the unit's own call.
func direct(u *unit.Unit, a record.Act) (int, error) {
	switch a.Kind {
	case 1:
		return u.Seal(a.Epoch)
	case 2:
		return 0, u.Write(a.Epoch, a.Address, a.Data)
	case 3:
		return 0, u.Fill(a.Epoch, a.Address)
	case 4:
		return 0, u.Trim(a.Epoch, a.Address)
	}
	return u.Cut(a.Epoch, a.Address)
}

// lively is a unit of which each call may do something.
func lively(t *testing.T) *unit.Unit {
	return made(t, 2, 3, entry(3, data("a")), entry(4, of(cell.Hole)), entry(6, data("")), entry(9, data("b")))
}

func TestApply(t *testing.T) {
	for _, c := range []struct {
		a    record.Act
		n    int
		err  error
		then string
	}{
		{seal(3), 10, nil, `3 from 3: 3=1:"a" 4=2:"" 6=1:"" 9=1:"b"`},
		{seal(2), 0, api.ErrSealed, ""},
		{write(2, 5, "x"), 0, nil, `2 from 3: 3=1:"a" 4=2:"" 5=1:"x" 6=1:"" 9=1:"b"`},
		{write(2, 3, "x"), 0, api.ErrWritten, ""},
		{write(2, 2, "x"), 0, api.ErrTrimmed, ""},
		{write(1, 5, "x"), 0, api.ErrSealed, ""},
		{fill(2, 5), 0, nil, `2 from 3: 3=1:"a" 4=2:"" 5=2:"" 6=1:"" 9=1:"b"`},
		{fill(2, 4), 0, nil, ""},
		{fill(2, 3), 0, api.ErrWritten, ""},
		{fill(3, 5), 0, api.ErrEpoch, ""},
		{trim(2, 5), 0, nil, `2 from 5: 6=1:"" 9=1:"b"`},
		{trim(2, addresses), 0, nil, `2 from 1048576: `},
		{cut(2, 5), 2, nil, `2 from 3: 3=1:"a" 4=2:""`},
		{cut(2, 3), 4, nil, `2 from 3: `},
		{cut(2, addresses), 0, nil, ""},
		{cut(2, 2), 0, api.ErrTrimmed, ""},
	} {
		u := lively(t)
		if c.then == "" {
			c.then = showUnit(u)
		}
		if n, err := record.Apply(u, c.a); n != c.n || err != c.err || showUnit(u) != c.then {
			t.Errorf("%s: %d, %v, then %s", showAct(c.a), n, err, showUnit(u))
		}
	}
}

func TestApplyOfAllTogether(t *testing.T) {
	for i, a := range someActs() {
		if i%7 != 0 && plainCheck(a) != nil { // of those that are none some will do
			continue
		}
		u, again := lively(t), lively(t)
		want, wantErr := 0, plainCheck(a)
		if wantErr == nil {
			want, wantErr = direct(again, a)
		}
		if n, err := record.Apply(u, a); n != want || err != wantErr || !unit.Same(u, again) {
			t.Fatalf("%s: %d, %v, want %d, %v; then %s", showAct(a), n, err, want, wantErr, showUnit(u))
		}
	}
}

// A nil unit answers what its calls say, but that it is no act goes ahead.
func TestApplyToNone(t *testing.T) {
	for _, a := range goodActs() {
		if n, err := record.Apply(nil, a); n != 0 || err != api.ErrNone {
			t.Errorf("%s: %d, %v", showAct(a), n, err)
		}
	}
	for _, c := range wrongActs() {
		if n, err := record.Apply(nil, c.a); n != 0 || err != c.want {
			t.Errorf("%s: %d, %v, want %v", showAct(c.a), n, err, c.want)
		}
		// No unit is changed by what is no act, be it one that the unit itself would do.
		u := made(t, max(0, min(c.a.Epoch, epochs)), 0)
		before := showUnit(u)
		if n, err := record.Apply(u, c.a); n != 0 || err != c.want || showUnit(u) != before {
			t.Errorf("%s: %d, %v, want %v; then %s", showAct(c.a), n, err, c.want, showUnit(u))
		}
	}
}

// Rule 5: what is handed in is neither changed nor kept, and answers are new memory.
func TestMemory(t *testing.T) {
	a := write(0, 1, "abcd")
	a.Data = a.Data[:2]
	b, _ := record.Put(a)
	u := unit.New()
	if _, err := record.Apply(u, a); err != nil || string(a.Data[:4]) != "abcd" {
		t.Error(a, err)
	}
	a.Data[0] = 'x'
	if c, _ := u.Read(0, 1); string(c.Data) != "ab" {
		t.Error("the unit keeps the act's data")
	}
	if !bytes.Equal(b, meantAct(write(0, 1, "ab"))) {
		t.Error("the bytes are the act's data")
	}
	got, _ := record.Take(b)
	whole := bytes.Clone(b)
	got.Data[0] = 'y'
	_ = append(got.Data, "zzzzzzzz"...)
	if !bytes.Equal(b, whole) {
		t.Error("the act's data is of the bytes")
	}
	clear(b)
	if string(got.Data) != "yb" {
		t.Error("the bytes are the act's data")
	}
	room := append(make([]byte, 0, 100), whole...)
	if _, err := record.Take(room); err != nil || !bytes.Equal(room[:100], append(whole, make([]byte, 100-len(whole))...)) {
		t.Error("spare room is written to", err)
	}
}

func ExamplePut() {
	b, err := record.Put(record.Act{Kind: record.Seal, Epoch: 1})
	fmt.Println(b[:3], len(b), err)
	// Output: [2 1 1] 7 <nil>
}
