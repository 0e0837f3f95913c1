package chain_test

import (
	"math"
	"math/rand"
	"slices"
	"testing"

	"holdfast/api"
	"holdfast/chain"
	"holdfast/manifest"
	"holdfast/sha"
)

// goodChains is chains, no two of them the same.
func goodChains() [][]manifest.Manifest {
	all := slices.Repeat([]int{most}, mostParts)
	full := from(addresses-2*mostParts*most, 0, all...)
	full = behind(full, addresses, all...)
	full = behind(full, addresses)
	full = behind(full, addresses)
	return [][]manifest.Manifest{
		nil,
		from(0, 0),
		from(5, 0),
		from(0, 5),
		from(addresses, addresses),
		from(0, 0, 1),
		from(1, 0, 1),
		from(addresses-1, 0, 1),
		from(0, 0, 1, 1),
		from(0, 0, 2),
		behind(from(0, 0), 0),
		behind(from(0, 0), 1),
		behind(from(0, 0, 1), 0),
		behind(from(0, 0), 0, 1),
		behind(from(9, 1), 1, 64),
		behind(from(9, 1), addresses, 64),
		four()[:2],
		four()[:3],
		four(),
		behind(four(), addresses, 1, 1, 1),
		full[:1],
		full[:2],
		full,
	}
}

type fault struct {
	list  []manifest.Manifest
	place int
	want  error
}

// wrongOnes is lists of which one is no manifest, whatever else is wrong with it, and behind it.
func wrongOnes() []fault {
	var list []fault
	add := func(place int, want error, change func(m *manifest.Manifest)) {
		list = append(list, fault{but(four(), place, change), place, want})
		for last := place; last < 4; last++ {
			worse := but(but(four(), last, func(m *manifest.Manifest) { m.Trim, m.Number = -1, 77 }), place, change)
			list = append(list, fault{worse, place, want})
		}
	}
	for place := range 4 {
		for _, n := range wrongNumbers() {
			add(place, api.ErrRange, func(m *manifest.Manifest) { m.Number = n })
		}
		for _, n := range wrongMarks() {
			add(place, api.ErrRange, func(m *manifest.Manifest) { m.From, m.Number = n, place })
			add(place, api.ErrRange, func(m *manifest.Manifest) { m.To, m.Number = n, place })
			add(place, api.ErrRange, func(m *manifest.Manifest) { m.Trim, m.Number = n, place })
		}
		whole := func(change func(m *manifest.Manifest)) func(m *manifest.Manifest) {
			return func(m *manifest.Manifest) {
				*m = four()[place]
				change(m)
			}
		}
		add(place, api.ErrForm, whole(func(m *manifest.Manifest) { m.To++ }))
		add(place, api.ErrForm, whole(func(m *manifest.Manifest) { m.From, m.Prev, m.Number = m.To+1, sumOf("x"), 9 }))
		add(place, api.ErrForm, whole(func(m *manifest.Manifest) { m.Number, m.Prev = 0, sumOf("x") }))
		add(place, api.ErrForm, whole(func(m *manifest.Manifest) { m.Parts = append(m.Parts, row(m.To, 1)...) }))
		add(place, api.ErrForm, whole(func(m *manifest.Manifest) { m.From++; m.To++; m.Trim = 0; m.Parts = row(m.From+1, 1) }))
		add(place, api.ErrRange, whole(func(m *manifest.Manifest) { m.From++; m.To += 2; m.Trim = 0; m.Parts = row(m.From, 0) }))
		add(place, api.ErrRange, whole(func(m *manifest.Manifest) { m.Prev = sumOf("x"); m.Number = 3; m.Parts = row(m.From, 65) }))
		add(place, api.ErrLong, whole(func(m *manifest.Manifest) { m.Parts = make([]manifest.Part, mostParts+1) }))
		add(place, api.ErrLong, whole(func(m *manifest.Manifest) {
			m.Number++
			m.Prev = sumOf("x")
			m.Parts = make([]manifest.Part, mostParts+1)
		}))
	}
	// Of number 0 all noughts, whatever the place: so a wrong one at a later place is no manifest.
	list = append(list, fault{but(four(), 2, func(m *manifest.Manifest) { m.Number = 0 }), 2, api.ErrForm})
	return list
}

// unfollowing is lists of manifests of which one doesn't follow; what is behind it does, or not.
func unfollowing() []fault {
	var list []fault
	add := func(place int, change func(m *manifest.Manifest)) {
		wrong := but(four(), place, change)
		list = append(list, fault{wrong, place, api.ErrChain}, fault{wrong[:place+1], place, api.ErrChain})
		// The digests behind it are right, then.
		again := but(linked(wrong), place, func(m *manifest.Manifest) { m.Prev = wrong[place].Prev })
		list = append(list, fault{again, place, api.ErrChain})
	}
	for place := range 4 {
		for _, n := range []int{place + 1, place + 2, place + 256, 999999} {
			add(place, func(m *manifest.Manifest) { m.Number = n })
		}
	}
	for place := 1; place < 4; place++ {
		add(place, func(m *manifest.Manifest) { m.Number, m.Prev = 0, none })
		add(place, func(m *manifest.Manifest) { m.Prev = none })
		add(place, func(m *manifest.Manifest) { m.Prev = digestOf(*m) })
		for i := range 32 {
			add(place, func(m *manifest.Manifest) { m.Prev[i] ^= 1 << (i % 8) })
		}
		add(place, func(m *manifest.Manifest) { m.Trim = four()[place-1].Trim - 1 })
		add(place, func(m *manifest.Manifest) { m.Trim = 0 })
		for _, at := range []int{four()[place].From - 1, four()[place].From + 1, 0, addresses - 100} {
			add(place, func(m *manifest.Manifest) {
				sizes := make([]int, len(m.Parts))
				for i, p := range m.Parts {
					sizes[i] = p.Many
				}
				*m = manifest.Manifest{Number: m.Number, From: at, To: at + total(sizes), Trim: m.Trim, Prev: m.Prev, Parts: row(at, sizes...)}
			})
		}
	}
	for _, n := range []int{1, 2, 999999} {
		list = append(list, fault{[]manifest.Manifest{{Number: n}}, 0, api.ErrChain},
			fault{[]manifest.Manifest{{Number: n, Prev: sumOf("x")}}, 0, api.ErrChain})
	}
	whole := four()
	return append(list,
		fault{whole[1:], 0, api.ErrChain},
		fault{whole[3:], 0, api.ErrChain},
		fault{[]manifest.Manifest{whole[0], whole[0]}, 1, api.ErrChain},
		fault{[]manifest.Manifest{whole[0], whole[2]}, 1, api.ErrChain},
		fault{[]manifest.Manifest{whole[0], whole[1], whole[3]}, 2, api.ErrChain},
		fault{[]manifest.Manifest{whole[0], whole[1], whole[1], whole[2]}, 2, api.ErrChain},
		fault{[]manifest.Manifest{whole[0], whole[1], whole[3], whole[2]}, 2, api.ErrChain},
		fault{[]manifest.Manifest{whole[1], whole[0]}, 0, api.ErrChain},
		// A part that is told of otherwise is in the digest alone.
		fault{but(whole, 0, func(m *manifest.Manifest) { m.Parts[1].Size++ }), 1, api.ErrChain},
		fault{but(whole, 2, func(m *manifest.Manifest) { m.Parts[0].Sum[31]++ }), 3, api.ErrChain},
		fault{but(whole, 2, func(m *manifest.Manifest) { m.Trim++ }), 3, api.ErrChain},
		// The first one that is wrong counts, whichever way it is.
		fault{but(but(whole, 3, func(m *manifest.Manifest) { m.Number = -1 }), 2, func(m *manifest.Manifest) { m.Number = 9 }), 2, api.ErrChain},
		fault{but(but(whole, 2, func(m *manifest.Manifest) { m.Number = -1 }), 3, func(m *manifest.Manifest) { m.Number = 9 }), 2, api.ErrRange},
	)
}

// wrongChains is lists that are no chains, the place of what is wrong, and what is said of it.
func wrongChains() []fault { return slices.Concat(wrongOnes(), unfollowing()) }

// P16.1: Check.

func TestCheck(t *testing.T) {
	for _, list := range goodChains() {
		if n, err := chain.Check(list); n != len(list) || err != nil {
			t.Errorf("%s: %d, %v", brief(list), n, err)
		}
	}
	if n, err := chain.Check([]manifest.Manifest{}); n != 0 || err != nil {
		t.Error(n, err)
	}
	for _, c := range wrongChains() {
		if n, err := chain.Check(c.list); n != c.place || err != c.want {
			t.Errorf("%s: %d, %v, want %d, %v", brief(c.list), n, err, c.place, c.want)
		}
		if n, err := plainCheck(c.list); n != c.place || err != c.want {
			t.Errorf("%s: told anew: %d, %v, want %d, %v", brief(c.list), n, err, c.place, c.want)
		}
	}
}

func TestAnyChain(t *testing.T) {
	r := rand.New(rand.NewSource(1))
	right := 0
	for range 10000 {
		list := drawAny(r)
		wantN, want := plainCheck(list)
		if n, err := chain.Check(list); n != wantN || err != want {
			t.Fatalf("%s: %d, %v, want %d, %v", brief(list), n, err, wantN, want)
		}
		if want == nil {
			right++
		}
	}
	if right < 3000 || right > 7000 {
		t.Errorf("%d of 10000 are right", right)
	}
}

// What is nobody's digest isn't held against anything: a list of nothing but number 0 has no second one.
func TestEmptyManifests(t *testing.T) {
	if n, err := chain.Check(make([]manifest.Manifest, 3)); n != 1 || err != api.ErrChain {
		t.Error(n, err)
	}
	if n, err := chain.Check(make([]manifest.Manifest, 1)); n != 1 || err != nil {
		t.Error(n, err)
	}
}

// P16.1: Next.

type asked struct {
	from, trim int
	parts      []manifest.Part
	want       error
}

// askNext asks for what follows, and holds it against what is meant.
func askNext(t *testing.T, list []manifest.Manifest, q asked) {
	t.Helper()
	want, wantErr := plainNext(list, q.from, q.trim, q.parts)
	if wantErr != q.want {
		t.Fatalf("%s, from %d, mark %d: told anew: %v, want %v", brief(list), q.from, q.trim, wantErr, q.want)
	}
	if got, err := chain.Next(list, q.from, q.trim, q.parts); err != wantErr || show(got) != show(want) {
		t.Fatalf("%s, from %d, mark %d: %.600s, %v, want %.600s, %v", brief(list), q.from, q.trim, show(got), err, show(want), wantErr)
	}
}

func TestFirst(t *testing.T) {
	m, err := chain.Next(nil, 5, 0, nil)
	if want := (manifest.Manifest{From: 5, To: 5}); err != nil || show(m) != show(want) {
		t.Error(show(m), err)
	}
	m, err = chain.Next([]manifest.Manifest{}, 5, 3, row(5, 2, 3))
	if want := (manifest.Manifest{From: 5, To: 10, Trim: 3, Parts: row(5, 2, 3)}); err != nil || show(m) != show(want) {
		t.Error(show(m), err)
	}
	all := slices.Repeat([]int{most}, mostParts)
	for _, q := range []asked{
		{0, 0, nil, nil},
		{0, 0, []manifest.Part{}, nil},
		{0, 0, row(0, 1), nil},
		{addresses, addresses, nil, nil},
		{addresses - 1, 0, row(addresses-1, 1), nil},
		{addresses - mostParts*most, 0, row(addresses-mostParts*most, all...), nil},
		// Nothing is ahead: so there is no mark to be below of, and no end.
		{0, -1, nil, api.ErrRange},
		{-1, 0, nil, api.ErrRange},
		{-1, -1, row(-1, 1), api.ErrRange},
		{addresses, 0, row(addresses, 1), api.ErrRange},
		{5, 0, row(6, 1), api.ErrForm},
		{5, 0, row(4, 1), api.ErrForm},
		{5, 0, row(4, 2), api.ErrForm},
		{5, 0, row(0, 5), api.ErrForm},
		{5, 0, row(0, 4), api.ErrForm},
		{5, 0, row(5, 0), api.ErrRange},
		{5, 0, row(5, 65), api.ErrRange},
		{5, 0, row(5, 1, 65, 1), api.ErrRange},
		{5, 0, row(5, slices.Repeat([]int{1}, mostParts+1)...), api.ErrLong},
	} {
		askNext(t, nil, q)
	}
	for _, n := range wrongMarks() {
		askNext(t, nil, asked{n, 0, nil, api.ErrRange})
		askNext(t, nil, asked{0, n, nil, api.ErrRange})
		askNext(t, nil, asked{n, n, row(n, 1), api.ErrRange})
	}
}

func TestFollowing(t *testing.T) {
	list := four()
	m, err := chain.Next(list, 85, 91, row(85, 1, 2))
	want := manifest.Manifest{Number: 4, From: 85, To: 88, Trim: 91, Prev: digestOf(list[3]), Parts: row(85, 1, 2)}
	if err != nil || show(m) != show(want) {
		t.Error(show(m), err)
	}
	if got := list[3].To; got != 85 {
		t.Fatal(got)
	}
	spoilt := row(85, 1, 2)
	spoilt[1].Size = 0
	apart := row(85, 1, 2)
	apart[1].First++
	for _, q := range []asked{
		{85, 90, nil, nil},
		{85, 91, nil, nil},
		{85, addresses, row(85, 64), nil},
		{84, 90, nil, api.ErrChain},
		{86, 90, nil, api.ErrChain},
		{84, 90, row(84, 1), api.ErrChain},
		{0, 90, nil, api.ErrChain},
		{5, 90, nil, api.ErrChain},
		{85, 89, nil, api.ErrChain},
		{85, 0, nil, api.ErrChain},
		{85, 7, row(85, 1), api.ErrChain},
		{84, 89, nil, api.ErrChain},
		{85, addresses + 1, nil, api.ErrRange},
		{85, math.MaxInt, row(86, 1), api.ErrRange},
		{85, -1, nil, api.ErrChain},
		{85, math.MinInt, row(85, 1), api.ErrChain},
		{-1, 90, nil, api.ErrChain},
		{addresses + 1, 90, nil, api.ErrChain},
		{math.MaxInt, math.MaxInt, nil, api.ErrChain},
		{85 + 1<<32, 90, nil, api.ErrChain},
		{85, 90 + 1<<32, nil, api.ErrRange},
		{84, 90, row(0, 65), api.ErrChain},
		{85, 90, row(84, 1), api.ErrForm},
		{85, 90, row(86, 1), api.ErrForm},
		{85, 90, row(83, 1), api.ErrForm},
		{85, 90, row(85, 1, 0), api.ErrRange},
		{85, 90, row(85, 1, -1), api.ErrRange},
		{85, 90, spoilt, api.ErrRange},
		{85, 90, apart, api.ErrForm},
		{85, 90, make([]manifest.Part, mostParts+1), api.ErrForm},
		{85, 90, row(85, slices.Repeat([]int{1}, mostParts+1)...), api.ErrLong},
	} {
		askNext(t, list, q)
	}
}

// The To of what follows is where the last part ends by itself, whatever those ahead of it say.
func TestWhereOddPartsEnd(t *testing.T) {
	odd := func(parts ...manifest.Part) []manifest.Part { return parts }
	for _, q := range []asked{
		{0, 0, odd(manifest.Part{First: addresses, Many: 1, Size: 1}), api.ErrRange},
		{0, 0, odd(manifest.Part{First: addresses - 1, Many: 1, Size: 1}), api.ErrForm},
		{0, 0, odd(manifest.Part{First: -5, Many: 1, Size: 1}), api.ErrRange},
		{0, 0, odd(manifest.Part{First: -5, Many: 5, Size: 1}), api.ErrForm},
		{0, 0, odd(manifest.Part{First: -5, Many: 65, Size: 1}), api.ErrRange},
		{9, 0, odd(manifest.Part{First: 3, Many: 5, Size: 1}), api.ErrForm},
		{0, 0, odd(manifest.Part{First: math.MaxInt, Many: math.MinInt, Size: 1}), api.ErrRange},
		{9, 0, odd(manifest.Part{First: math.MaxInt, Many: math.MinInt + 9, Size: 1}), api.ErrForm},
		{0, 0, odd(manifest.Part{First: math.MaxInt, Many: math.MaxInt, Size: 1}), api.ErrRange},
		{0, 0, append(make([]manifest.Part, mostParts), manifest.Part{First: -1}), api.ErrRange},
		{0, 0, append(make([]manifest.Part, mostParts), manifest.Part{First: 1}), api.ErrLong},
		{9, 0, append(make([]manifest.Part, mostParts), manifest.Part{First: 1}), api.ErrForm},
		{5, 0, append(row(5, 1), row(7, 1)...), api.ErrForm},
		{5, 0, append(row(5, 65), row(70, 1)...), api.ErrRange},
		{5, 0, append(row(5, 1), row(addresses, 1)...), api.ErrRange},
		{5, 0, append(row(addresses+5, 1), row(6, 1)...), api.ErrForm},
	} {
		askNext(t, nil, q)
	}
}

// The chain's own errors go ahead of all others.
func TestNothingFollowsWhatIsNoChain(t *testing.T) {
	for _, c := range wrongChains() {
		last := c.list[len(c.list)-1]
		for _, q := range []asked{
			{last.To, last.Trim, nil, c.want},
			{last.To, last.Trim, row(last.To, 1), c.want},
			{-1, -1, row(7, 0), c.want},
		} {
			askNext(t, c.list, q)
		}
	}
}

func TestAnyNext(t *testing.T) {
	r := rand.New(rand.NewSource(2))
	right := 0
	for range 8000 {
		list := pick(r, drawChain(r, 5), drawAny(r))
		at, trim := r.Intn(300), r.Intn(300)
		if n := len(list); n > 0 {
			at, trim = list[n-1].To, list[n-1].Trim+pick(r, 0, 1, r.Intn(50))
		}
		at += pick(r, 0, 0, 0, 0, 0, 0, -1, 1, 1<<32)
		trim += pick(r, 0, 0, 0, 0, 0, 0, -1, 1, addresses)
		parts := row(at, drawSizes(r, 4)...)
		if len(parts) > 0 && r.Intn(4) == 0 {
			m := manifest.Manifest{Parts: parts}
			spoilOne(r, &m)
			parts = m.Parts
		}
		_, want := plainNext(list, at, trim, parts)
		askNext(t, list, asked{at, trim, parts, want})
		if want == nil {
			right++
		}
	}
	if right < 2000 || right > 6000 {
		t.Errorf("%d of 8000 are right", right)
	}
}

// P16.1: Begin, End, Mark, of whatever list there is; Head.

func ends(t *testing.T, list []manifest.Manifest, begin, end, mark int) {
	t.Helper()
	if a, b, c := chain.Begin(list), chain.End(list), chain.Mark(list); a != begin || b != end || c != mark {
		t.Errorf("%s: %d, %d, %d, want %d, %d, %d", brief(list), a, b, c, begin, end, mark)
	}
}

func TestEnds(t *testing.T) {
	ends(t, nil, 0, 0, 0)
	ends(t, []manifest.Manifest{}, 0, 0, 0)
	ends(t, four(), 5, 85, 90)
	ends(t, four()[:3], 5, 78, 7)
	ends(t, four()[:2], 5, 72, 7)
	ends(t, four()[:1], 5, 72, 2)
	ends(t, four()[1:], 72, 85, 90)
	ends(t, []manifest.Manifest{{From: -1, To: -2, Trim: -3}}, -1, -2, -3)
	ends(t, []manifest.Manifest{{From: 9, To: 8, Trim: 7}, {From: math.MaxInt, To: math.MinInt, Trim: math.MaxInt}}, 9, math.MinInt, math.MaxInt)
	ends(t, []manifest.Manifest{{From: 9, To: 8, Trim: 7}, {}, {Number: -4, From: 6, To: 5, Trim: 4, Parts: row(77, 3)}}, 9, 5, 4)
	for _, c := range wrongChains() {
		n := len(c.list)
		ends(t, c.list, c.list[0].From, c.list[n-1].To, c.list[n-1].Trim)
	}
}

func TestHead(t *testing.T) {
	for _, list := range append(goodChains(), []manifest.Manifest{}) {
		want := none
		if n := len(list); n > 0 {
			want = digestOf(list[n-1])
		}
		if d, err := chain.Head(list); d != want || err != nil {
			t.Errorf("%s: %x, %v, want %x", brief(list), d, err, want)
		}
	}
	// Only the last one is asked for its digest.
	for _, c := range wrongChains() {
		last := c.list[len(c.list)-1]
		want, wantErr := digestOf(last), manifest.Check(last)
		if wantErr != nil {
			want = none
		}
		if d, err := chain.Head(c.list); d != want || err != wantErr {
			t.Errorf("%s: %x, %v, want %x, %v", brief(c.list), d, err, want, wantErr)
		}
	}
	if d, err := chain.Head([]manifest.Manifest{{Number: -1}, {Number: 9}}); d != digestOf(manifest.Manifest{Number: 9}) || err != nil {
		t.Errorf("%x, %v", d, err)
	}
	if d, err := chain.Head([]manifest.Manifest{{}, {Number: -1}}); d != none || err != api.ErrRange {
		t.Errorf("%x, %v", d, err)
	}
	if d, err := chain.Head([]manifest.Manifest{{}, {Prev: sha.Digest{31: 1}}}); d != none || err != api.ErrForm {
		t.Errorf("%x, %v", d, err)
	}
}

// P16.1: Find.

func finds(t *testing.T, list []manifest.Manifest, address, wantM, wantPart int, wantThere bool) {
	t.Helper()
	if m, part, there := chain.Find(list, address); m != wantM || part != wantPart || there != wantThere {
		t.Fatalf("%s at %d: %d, %d, %v, want %d, %d, %v", brief(list), address, m, part, there, wantM, wantPart, wantThere)
	}
}

func TestFind(t *testing.T) {
	list := four()
	for address, want := range map[int][2]int{
		5: {0, 0}, 7: {0, 0}, 8: {0, 1}, 71: {0, 1}, 72: {2, 0}, 73: {2, 1}, 74: {2, 1}, 75: {2, 2}, 77: {2, 2}, 78: {3, 0}, 84: {3, 0},
	} {
		finds(t, list, address, want[0], want[1], true)
	}
	for _, address := range []int{4, 85, 0, 1, -1, -5, 86, addresses, 5 + 1<<32, math.MinInt, math.MaxInt} {
		finds(t, list, address, 0, 0, false)
		finds(t, nil, address, 0, 0, false)
		finds(t, []manifest.Manifest{}, address, 0, 0, false)
		finds(t, make([]manifest.Manifest, 3), address, 0, 0, false)
	}
	for _, list := range goodChains() {
		for i, m := range list {
			for j, p := range m.Parts {
				finds(t, list, p.First, i, j, true)
				finds(t, list, p.First+p.Many-1, i, j, true)
			}
		}
		finds(t, list, chain.Begin(list)-1, 0, 0, false)
		finds(t, list, chain.End(list), 0, 0, false)
	}
}

// Of whatever list: the first manifest that has it, and the first part there.
func TestFindInWhatIsNoChain(t *testing.T) {
	list := []manifest.Manifest{
		{From: 100, To: 200},
		{Number: 9, Parts: append(row(50, 5), row(40, 5, 5, 5)...)},
		{Number: -9, Parts: append(row(40, 20, 20), manifest.Part{First: math.MaxInt, Many: 1})},
		{Parts: row(0, 100)},
	}
	for address, want := range map[int][2]int{
		0: {3, 0}, 39: {3, 0}, 40: {1, 1}, 45: {1, 2}, 49: {1, 2}, 50: {1, 0}, 54: {1, 0}, 55: {2, 0}, 59: {2, 0}, 60: {2, 1}, 79: {2, 1}, 80: {3, 0}, 99: {3, 0},
		math.MaxInt: {2, 2},
	} {
		finds(t, list, address, want[0], want[1], true)
	}
	for _, address := range []int{-1, 100, 150, 199, math.MinInt} {
		finds(t, list, address, 0, 0, false)
	}
}

func TestFindInAny(t *testing.T) {
	r := rand.New(rand.NewSource(3))
	there := 0
	for range 20000 {
		list := drawAny(r)
		address := chain.Begin(list) - 3 + r.Intn(400)
		wantM, wantPart, want := 0, 0, false
		for i, m := range list {
			for j, p := range m.Parts {
				if !want && p.Many > 0 && uint64(address)-uint64(p.First) < uint64(p.Many) {
					wantM, wantPart, want = i, j, true
				}
			}
		}
		finds(t, list, address, wantM, wantPart, want)
		if want {
			there++
		}
	}
	if there < 3000 || there > 17000 {
		t.Errorf("%d of 20000 are there", there)
	}
}

// P16.1: Common.

// shares asks how many two lists have in common, either way.
func shares(t *testing.T, a, b []manifest.Manifest, want int) {
	t.Helper()
	if n, back := chain.Common(a, b), chain.Common(b, a); n != want || back != want {
		t.Errorf("%s\nand %s: %d, %d, want %d", brief(a), brief(b), n, back, want)
	}
}

func TestCommon(t *testing.T) {
	list := four()
	for i := range 5 {
		for j := range 5 {
			shares(t, list[:i], four()[:j], min(i, j))
		}
		shares(t, list, nil, 0)
		shares(t, nil, []manifest.Manifest{}, 0)
	}
	for place := range 4 {
		for _, change := range []func(m *manifest.Manifest){
			func(m *manifest.Manifest) { m.Number++ },
			func(m *manifest.Manifest) { m.From-- },
			func(m *manifest.Manifest) { m.To++ },
			func(m *manifest.Manifest) { m.Trim++ },
			func(m *manifest.Manifest) { m.Prev[31] ^= 1 },
			func(m *manifest.Manifest) { m.Parts = append(m.Parts, manifest.Part{}) },
			func(m *manifest.Manifest) { m.Parts = row(0, 1, 1) },
		} {
			other := but(list, place, change)
			shares(t, list, other, place)
			shares(t, list[:place], other, place)
			shares(t, list[:place+1], other, place)
			shares(t, other, other, 4)
		}
	}
	// From their beginnings on, and not anywhere.
	shares(t, list, list[1:], 0)
	shares(t, list[1:], list[1:3], 2)
	shares(t, but(list, 0, func(m *manifest.Manifest) { m.Trim++ }), but(list, 3, func(m *manifest.Manifest) { m.Trim++ }), 0)
	empty := but(list, 1, func(m *manifest.Manifest) { m.Parts = []manifest.Part{} })
	shares(t, list, empty, 4)
	shares(t, make([]manifest.Manifest, 5), make([]manifest.Manifest, 3), 3)
}
