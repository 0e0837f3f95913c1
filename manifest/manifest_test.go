package manifest_test

import (
	"math"
	"math/rand"
	"slices"
	"testing"

	"holdfast/api"
	"holdfast/manifest"
	"holdfast/sha"
)

// sizes is so many parts of as many cells.
func sizes(parts, many int) []int { return slices.Repeat([]int{many}, parts) }

// goodManifests is manifests, no two of them the same.
func goodManifests() []manifest.Manifest {
	one := of(1, 5, 3)
	two := of(7, 100, 64, 1)
	list := []manifest.Manifest{
		{},
		{Number: 1},
		{Number: numbers - 1},
		{Trim: 1},
		{Trim: addresses},
		{From: 1, To: 1},
		{From: addresses, To: addresses},
		{From: addresses, To: addresses, Trim: addresses, Number: numbers - 1, Prev: sumOf("")},
		of(0, 0),
		of(0, 0, 1),
		of(1, 5),
		one,
		but(one, func(m *manifest.Manifest) { m.Number = 2 }),
		but(one, func(m *manifest.Manifest) { m.Trim = 0 }),
		but(one, func(m *manifest.Manifest) { m.Trim = addresses }),
		but(one, func(m *manifest.Manifest) { m.Prev = none }),
		but(one, func(m *manifest.Manifest) { m.Prev[0] ^= 1 }),
		but(one, func(m *manifest.Manifest) { m.Prev[31] ^= 128 }),
		but(one, func(m *manifest.Manifest) { m.Parts[0].Size = 1 }),
		but(one, func(m *manifest.Manifest) { m.Parts[0].Size = mostSize }),
		but(one, func(m *manifest.Manifest) { m.Parts[0].Sum = none }),
		but(one, func(m *manifest.Manifest) { m.Parts[0].Sum[0] ^= 1 }),
		but(one, func(m *manifest.Manifest) { m.Parts[0].Sum[31] ^= 128 }),
		of(1, 5, 1, 2),
		of(1, 5, 2, 1),
		of(1, 5, 1, 1, 1),
		of(1, 6, 3),
		two,
		but(two, func(m *manifest.Manifest) { m.Parts[1].Size++ }),
		but(two, func(m *manifest.Manifest) { m.Parts[1].Sum[5]++ }),
		of(8, addresses-1, 1),
		of(8, addresses-64, 64),
		of(8, addresses-65, 1, 64),
		of(numbers-1, 0, sizes(mostParts-1, 1)...),
		of(numbers-1, 0, sizes(mostParts, 1)...),
		of(numbers-1, 0, sizes(mostParts, most)...),
		of(numbers-1, addresses-mostParts*most, sizes(mostParts, most)...),
	}
	// Each byte of the digest ahead counts.
	for i := range 32 {
		list = append(list, but(of(3, 0), func(m *manifest.Manifest) { m.Prev[i] ^= 16 }))
	}
	return list
}

type fault struct {
	m    manifest.Manifest
	want error
}

// parted is a manifest of four parts, of which one is otherwise.
func parted(place int, change func(p *manifest.Part)) manifest.Manifest {
	return but(of(3, 10, 2, 3, 4, 5), func(m *manifest.Manifest) { change(&m.Parts[place]) })
}

// outOfRange is what has a number that is too small or too great, whatever else is wrong.
func outOfRange() []fault {
	good := of(3, 10, 2, 3)
	tooMany := of(3, 0, sizes(mostParts+1, 1)...)
	var list []fault
	for _, m := range []manifest.Manifest{good, {}, tooMany, but(good, func(m *manifest.Manifest) { m.Number, m.To = 0, 9 })} {
		for _, n := range wrongNumbers() {
			list = append(list, fault{but(m, func(m *manifest.Manifest) { m.Number = n }), api.ErrRange})
		}
		for _, n := range wrongMarks() {
			list = append(list,
				fault{but(m, func(m *manifest.Manifest) { m.From = n }), api.ErrRange},
				fault{but(m, func(m *manifest.Manifest) { m.To = n }), api.ErrRange},
				fault{but(m, func(m *manifest.Manifest) { m.Trim = n }), api.ErrRange},
				fault{but(m, func(m *manifest.Manifest) { m.From, m.To = n, n }), api.ErrRange},
			)
		}
	}
	return list
}

// illFormed is what has wrong ends, a digest ahead of number 0, or too many parts: in that order, and ahead of all that parts have.
func illFormed() []fault {
	tooMany := of(3, 0, sizes(mostParts+1, 1)...)
	list := []fault{
		{manifest.Manifest{From: 1}, api.ErrForm},
		{manifest.Manifest{From: addresses, To: addresses - 1}, api.ErrForm},
		{manifest.Manifest{Number: 1, From: addresses}, api.ErrForm},
		{but(of(3, 10, 2), func(m *manifest.Manifest) { m.From, m.To = m.To, m.From }), api.ErrForm},
		{but(of(3, 10, 2), func(m *manifest.Manifest) { m.To, m.Parts[0].Many = 9, -1 }), api.ErrForm},
		{but(of(3, 10, 2), func(m *manifest.Manifest) { m.To, m.Parts[0].Many = 9, 65 }), api.ErrForm},
		{but(of(3, 10, 2), func(m *manifest.Manifest) { m.Number, m.Parts[0].Size = 0, 0 }), api.ErrForm},
		{but(tooMany, func(m *manifest.Manifest) { m.From, m.To = m.To, m.From }), api.ErrForm},
		{but(tooMany, func(m *manifest.Manifest) { m.Number = 0 }), api.ErrForm},
		{tooMany, api.ErrLong},
		{but(tooMany, func(m *manifest.Manifest) { m.Number, m.Prev = 0, none }), api.ErrLong},
		{but(tooMany, func(m *manifest.Manifest) { m.Parts[0].Many = 0 }), api.ErrLong},
		{but(tooMany, func(m *manifest.Manifest) { m.Parts[0].Size = 0 }), api.ErrLong},
		{but(tooMany, func(m *manifest.Manifest) { m.Parts[0].First = 9 }), api.ErrLong},
		{but(tooMany, func(m *manifest.Manifest) { m.To = 0 }), api.ErrLong},
		{of(3, 0, sizes(2*mostParts, most)...), api.ErrLong},
		{manifest.Manifest{Parts: make([]manifest.Part, mostParts+1)}, api.ErrLong},
		{manifest.Manifest{Parts: make([]manifest.Part, 100000)}, api.ErrLong},
		{manifest.Manifest{Parts: make([]manifest.Part, mostParts)}, api.ErrRange},
	}
	for i := range 32 {
		list = append(list, fault{but(of(0, 10, 2), func(m *manifest.Manifest) { m.Prev[i] = 1 }), api.ErrForm})
	}
	return list
}

// wrongParts is what has parts that aren't in range, or not one behind the other.
func wrongParts() []fault {
	var list []fault
	for place := range 4 {
		for _, many := range wrongManies() {
			list = append(list,
				fault{parted(place, func(p *manifest.Part) { p.Many = many }), api.ErrRange},
				fault{parted(place, func(p *manifest.Part) { p.Many, p.First = many, 9 }), api.ErrRange})
		}
		for _, size := range wrongSizes() {
			list = append(list,
				fault{parted(place, func(p *manifest.Part) { p.Size = size }), api.ErrRange},
				fault{parted(place, func(p *manifest.Part) { p.Size, p.First = size, 9 }), api.ErrRange})
		}
		for _, off := range []int{-1, 1, -10, 64, 1 << 20, 1 << 32, math.MinInt, math.MaxInt} {
			list = append(list, fault{parted(place, func(p *manifest.Part) { p.First += off }), api.ErrForm})
		}
		// Part by part, and then whether they end at To.
		list = append(list,
			fault{parted(place, func(p *manifest.Part) { p.Many++ }), api.ErrForm},
			fault{parted(place, func(p *manifest.Part) { p.Many-- }), api.ErrForm},
			fault{but(parted(3, func(p *manifest.Part) { p.Many = 0 }), func(m *manifest.Manifest) { m.Parts[place].First++ }), []error{api.ErrForm, api.ErrForm, api.ErrForm, api.ErrRange}[place]},
			fault{but(parted(0, func(p *manifest.Part) { p.First++ }), func(m *manifest.Manifest) { m.Parts[place].Size = 0 }), []error{api.ErrRange, api.ErrForm, api.ErrForm, api.ErrForm}[place]},
			fault{but(parted(place, func(p *manifest.Part) { p.Size = 0 }), func(m *manifest.Manifest) { m.To++ }), api.ErrRange},
			fault{but(parted(place, func(p *manifest.Part) { p.Many = 65 }), func(m *manifest.Manifest) { m.To-- }), api.ErrRange},
		)
	}
	for _, to := range []int{10, 11, 23, 25, addresses} {
		list = append(list, fault{but(of(3, 10, 2, 3, 4, 5), func(m *manifest.Manifest) { m.To = to }), api.ErrForm})
	}
	return append(list,
		fault{manifest.Manifest{To: 1}, api.ErrForm},
		fault{manifest.Manifest{To: addresses}, api.ErrForm},
		fault{but(of(3, 10, 2), func(m *manifest.Manifest) { m.From-- }), api.ErrForm},
		fault{but(of(3, 10, 2, 3), func(m *manifest.Manifest) { m.From += 2 }), api.ErrForm},
		fault{but(of(3, 10, 2, 3), func(m *manifest.Manifest) { m.Parts = m.Parts[1:] }), api.ErrForm},
		fault{but(of(3, 10, 2, 3), func(m *manifest.Manifest) { m.Parts = m.Parts[:1] }), api.ErrForm},
		fault{but(of(3, 10, 2, 2), func(m *manifest.Manifest) { slices.Reverse(m.Parts) }), api.ErrForm},
		fault{but(of(3, 10, 2, 2), func(m *manifest.Manifest) { m.Parts[1] = m.Parts[0] }), api.ErrForm},
		fault{but(of(3, addresses, 1), func(m *manifest.Manifest) { m.To = addresses }), api.ErrForm},
		fault{of(3, addresses, 1), api.ErrRange},
		fault{of(3, addresses-63, 64), api.ErrRange},
		fault{but(of(3, 0, sizes(mostParts, most)...), func(m *manifest.Manifest) { m.Parts[mostParts-1].Many-- }), api.ErrForm},
		fault{but(of(3, 0, sizes(mostParts, most)...), func(m *manifest.Manifest) { m.Parts[mostParts-1].Size = 0 }), api.ErrRange},
	)
}

// wrongManifests is what is no manifest, and what is said of it.
func wrongManifests() []fault { return slices.Concat(outOfRange(), illFormed(), wrongParts()) }

// anyManifests is both, as they are.
func anyManifests() []manifest.Manifest {
	list := goodManifests()
	for _, c := range wrongManifests() {
		list = append(list, c.m)
	}
	return list
}

// P15.1: Check.

func TestCheck(t *testing.T) {
	for _, m := range goodManifests() {
		if err := manifest.Check(m); err != nil {
			t.Errorf("%s: %v", brief(m), err)
		}
	}
	if err := manifest.Check(manifest.Manifest{Parts: []manifest.Part{}}); err != nil {
		t.Error(err)
	}
	for _, c := range wrongManifests() {
		if err := manifest.Check(c.m); err != c.want {
			t.Errorf("%s: %v, want %v", brief(c.m), err, c.want)
		}
		if err := plainCheck(c.m); err != c.want {
			t.Errorf("%s: told anew: %v, want %v", brief(c.m), err, c.want)
		}
	}
}

func TestAnyManifest(t *testing.T) {
	r := rand.New(rand.NewSource(1))
	right := 0
	for range 15000 {
		m := drawAny(r)
		want := plainCheck(m)
		if err := manifest.Check(m); err != want {
			t.Fatalf("%s: %v, want %v", brief(m), err, want)
		}
		b, err := manifest.Put(m)
		if err != want || want != nil && len(b) > 0 {
			t.Fatalf("%s: Put: %x, %v, want %v", brief(m), b, err, want)
		}
		d, err := manifest.Digest(m)
		if err != want || want != nil && d != none {
			t.Fatalf("%s: Digest: %x, %v, want %v", brief(m), d, err, want)
		}
		if got := manifest.Copy(m); !manifest.Same(got, m) || show(got) != show(m) {
			t.Fatalf("%s: copy %s", brief(m), brief(got))
		}
		if want == nil {
			right++
		}
	}
	if right < 4000 || right > 12000 {
		t.Errorf("%d of 15000 are right", right)
	}
}

// P15.1: Find, of whatever manifest.

// finds asks for an address, and holds it against what is meant.
func finds(t *testing.T, m manifest.Manifest, address, want int, wantThere bool) {
	t.Helper()
	if got, there := manifest.Find(m, address); got != want || there != wantThere {
		t.Fatalf("%s at %d: %d, %v, want %d, %v", brief(m), address, got, there, want, wantThere)
	}
}

func TestFind(t *testing.T) {
	m := of(3, 10, 2, 1, 4)
	for address, want := range map[int]int{10: 0, 11: 0, 12: 1, 13: 2, 14: 2, 15: 2, 16: 2} {
		finds(t, m, address, want, true)
	}
	for _, address := range []int{9, 17, 0, 1, 2, -1, 8, 18, -10, 1 << 32, 1<<32 + 10, math.MinInt, math.MinInt + 12, math.MaxInt} {
		finds(t, m, address, 0, false)
	}
	for _, m := range goodManifests() {
		for i, p := range m.Parts {
			finds(t, m, p.First, i, true)
			finds(t, m, p.First+p.Many-1, i, true)
		}
		for _, back := range []int{1, 2, most, addresses} {
			finds(t, m, m.From-back, 0, false)
			finds(t, m, m.To-1+back, 0, false)
		}
	}
	for _, address := range []int{0, 1, 2, -1, addresses - 1, addresses, math.MinInt, math.MaxInt} {
		finds(t, manifest.Manifest{}, address, 0, false)
		finds(t, manifest.Manifest{To: addresses}, address, 0, false)
	}
}

// The first one whose cells are there counts, not what the ends say, nor whether the parts are in order.
func TestFindInWhatIsNoManifest(t *testing.T) {
	m := manifest.Manifest{Number: -1, From: 50, To: 40, Trim: -5, Prev: sumOf("x"), Parts: []manifest.Part{
		{First: 10, Many: 0},
		{First: 10, Many: -5},
		{First: 20, Many: 5},
		{First: 8, Many: 14, Size: -1},
		{First: 10, Many: 3},
		{First: 1 << 40, Many: 1 << 20},
		{First: -7, Many: 3},
		{First: math.MinInt, Many: 2},
		{First: math.MaxInt - 1, Many: 2},
	}}
	for address, want := range map[int]int{
		8: 3, 10: 3, 12: 3, 19: 3, 20: 2, 21: 2, 24: 2, 1 << 40: 5, 1<<40 + 1<<20 - 1: 5, -7: 6, -5: 6,
		math.MinInt: 7, math.MinInt + 1: 7, math.MaxInt - 1: 8, math.MaxInt: 8,
	} {
		finds(t, m, address, want, true)
	}
	for _, address := range []int{7, 25, 5, 6, 0, -4, -8, 40, 45, 50, 1<<40 - 1, 1<<40 + 1<<20, math.MinInt + 2, math.MaxInt - 2} {
		finds(t, m, address, 0, false)
	}
	many := manifest.Manifest{Parts: row(0, sizes(3*mostParts, 1)...)}
	finds(t, many, 0, 0, true)
	finds(t, many, 3*mostParts-1, 3*mostParts-1, true)
	finds(t, many, 3*mostParts, 0, false)
	great := manifest.Manifest{Parts: []manifest.Part{{First: 1, Many: math.MaxInt}}}
	finds(t, great, 1, 0, true)
	finds(t, great, math.MaxInt, 0, true)
	finds(t, great, 0, 0, false)
	small := manifest.Manifest{Parts: []manifest.Part{{First: 0, Many: math.MinInt}, {First: -3, Many: 1}}}
	finds(t, small, -3, 1, true)
	finds(t, small, 0, 0, false)
	finds(t, small, math.MinInt, 0, false)
}

// Numbers wrap around: so do the addresses of what begins near their end.
func TestFindAtTheEndOfTheNumbers(t *testing.T) {
	m := manifest.Manifest{Parts: []manifest.Part{{First: math.MaxInt - 1, Many: 3}}}
	finds(t, m, math.MaxInt-2, 0, false)
	finds(t, m, math.MaxInt-1, 0, true)
	finds(t, m, math.MaxInt, 0, true)
	finds(t, m, math.MinInt, 0, true)
	finds(t, m, math.MinInt+1, 0, false)
	finds(t, m, 0, 0, false)
}

func TestFindOfAny(t *testing.T) {
	r := rand.New(rand.NewSource(2))
	there := 0
	for range 20000 {
		m := drawAny(r)
		address := m.From - 3 + r.Intn(most*(len(m.Parts)%8)+6)
		want, is := 0, false
		for i, p := range m.Parts {
			if !is && p.Many > 0 && uint64(address)-uint64(p.First) < uint64(p.Many) {
				want, is = i, true
			}
		}
		finds(t, m, address, want, is)
		if is {
			there++
		}
	}
	if there < 4000 || there > 16000 {
		t.Errorf("%d of 20000 are there", there)
	}
}

// P15.1: Same, Copy, of whatever manifest.

func TestSame(t *testing.T) {
	list := append(goodManifests(),
		manifest.Manifest{Number: -1},
		manifest.Manifest{Number: 1 << 32},
		manifest.Manifest{From: -1},
		manifest.Manifest{From: 1},
		manifest.Manifest{To: 1},
		manifest.Manifest{To: math.MaxInt},
		manifest.Manifest{Trim: math.MinInt},
		manifest.Manifest{Prev: sha.Digest{31: 1}},
		manifest.Manifest{Parts: make([]manifest.Part, 1)},
		manifest.Manifest{Parts: make([]manifest.Part, 2)},
		manifest.Manifest{Parts: make([]manifest.Part, 2*mostParts)},
		manifest.Manifest{Parts: []manifest.Part{{First: 1}}},
		manifest.Manifest{Parts: []manifest.Part{{Many: 1}}},
		manifest.Manifest{Parts: []manifest.Part{{Size: 1}}},
		manifest.Manifest{Parts: []manifest.Part{{Sum: sha.Digest{31: 1}}}},
		manifest.Manifest{Parts: []manifest.Part{{}, {First: 1}}},
		manifest.Manifest{Parts: []manifest.Part{{First: 1}, {}}},
		parted(1, func(p *manifest.Part) { p.First++ }),
		parted(1, func(p *manifest.Part) { p.Many++ }),
		parted(3, func(p *manifest.Part) { p.Sum[31]++ }),
	)
	for i, a := range list {
		for j, b := range list {
			if got := manifest.Same(a, b); got != (i == j) {
				t.Errorf("Same(%s, %s) = %v", brief(a), brief(b), got)
			}
		}
		if !manifest.Same(a, but(a, func(*manifest.Manifest) {})) {
			t.Errorf("%s isn't itself", brief(a))
		}
	}
}

// Nil and empty lists mean the same.
func TestNothingIsSame(t *testing.T) {
	a, b := of(4, 9), of(4, 9)
	b.Parts = row(0, 1, 2)[:0]
	if !manifest.Same(a, b) || !manifest.Same(b, a) || !manifest.Same(manifest.Copy(b), a) || !manifest.Same(manifest.Copy(a), b) {
		t.Error("no parts aren't no parts")
	}
	putA, errA := manifest.Put(a)
	putB, errB := manifest.Put(b)
	if string(putA) != string(putB) || errA != nil || errB != nil {
		t.Errorf("%x, %v, %x, %v", putA, errA, putB, errB)
	}
}

func TestCopy(t *testing.T) {
	for _, m := range anyManifests() {
		if got := manifest.Copy(m); !manifest.Same(got, m) || show(got) != show(m) {
			t.Errorf("%s: copy %s", brief(m), brief(got))
		}
	}
}
