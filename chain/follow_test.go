package chain_test

import (
	"math/rand"
	"testing"

	"holdfast/api"
	"holdfast/chain"
	"holdfast/manifest"
)

// P16.2: a chain with what follows it is a chain.

func TestFollowingMakesAChain(t *testing.T) {
	r := rand.New(rand.NewSource(4))
	for range 300 {
		var list []manifest.Manifest
		at, trim := pick(r, 0, r.Intn(1000), addresses-200), 0
		for range 12 {
			trim += pick(r, 0, 1, r.Intn(90))
			m, err := chain.Next(list, at, trim, row(at, drawSizes(r, 2)...))
			if err != nil {
				// Only what goes beyond the addresses doesn't follow.
				if err != api.ErrRange || at < addresses-200 {
					t.Fatalf("%s, from %d: %v", brief(list), at, err)
				}
				continue
			}
			list = append(list, m)
			if n, err := chain.Check(list); n != len(list) || err != nil {
				t.Fatalf("%s: %d, %v", brief(list), n, err)
			}
			if n, err := plainCheck(list); n != len(list) || err != nil {
				t.Fatalf("%s: told anew: %d, %v", brief(list), n, err)
			}
			at = chain.End(list)
		}
	}
}

// Whatever follows a chain by what the chapter says of it is what Next tells.
func TestWhatFollowsIsNext(t *testing.T) {
	for _, list := range goodChains() {
		for i, m := range list {
			next, err := chain.Next(list[:i], m.From, m.Trim, m.Parts)
			if err != nil || show(next) != show(m) {
				t.Errorf("%s, %d: %.600s, %v", brief(list), i, show(next), err)
			}
		}
	}
}

// As many manifests as there are numbers: one more has none.
func TestEndOfTheNumbers(t *testing.T) {
	if testing.Short() {
		t.Skip("takes seconds")
	}
	list := make([]manifest.Manifest, numbers)
	for i := range list[1:] {
		list[i+1] = manifest.Manifest{Number: i + 1, Prev: digestOf(list[i])}
	}
	if m, err := chain.Next(list[:numbers-1], 0, 0, nil); err != nil || show(m) != show(list[numbers-1]) {
		t.Error(show(m), err)
	}
	if m, err := chain.Next(list, 0, 0, nil); err != api.ErrRange || show(m) != nothing {
		t.Error(show(m), err)
	}
}

// P16.2: two chains whose heads are the same, and that are as long, are the same.

// changed is chains of four that differ in one thing, at one place, and follow on from there.
func changed(place int) [][]manifest.Manifest {
	var all [][]manifest.Manifest
	for _, change := range []func(m *manifest.Manifest){
		func(m *manifest.Manifest) { m.Trim++ },
		func(m *manifest.Manifest) { m.Parts = row(m.From, 1); m.To = m.From + 1 },
		func(m *manifest.Manifest) { m.Parts = row(m.From, 1, 1); m.To = m.From + 2 },
		func(m *manifest.Manifest) { m.Parts = row(m.From, 2); m.To = m.From + 2; m.Parts[0].Size = 1 },
		func(m *manifest.Manifest) { m.Parts = row(m.From, 2); m.To = m.From + 2; m.Parts[0].Size = 2 },
		func(m *manifest.Manifest) { m.Parts = row(m.From, 2); m.To = m.From + 2; m.Parts[0].Sum = none },
		func(m *manifest.Manifest) { m.Parts = row(m.From, 2); m.To = m.From + 2; m.Parts[0].Sum = sumOf("x") },
	} {
		list := but(four(), place, change)[:place+1]
		for _, m := range four()[place+1:] {
			sizes := make([]int, len(m.Parts))
			for i, p := range m.Parts {
				sizes[i] = p.Many
			}
			list = behind(list, max(m.Trim, list[len(list)-1].Trim), sizes...)
		}
		all = append(all, list)
	}
	return all
}

func TestHeadsTellChainsApart(t *testing.T) {
	all := [][]manifest.Manifest{four()}
	for place := range 4 {
		all = append(all, changed(place)...)
	}
	for i, a := range all {
		if n, err := chain.Check(a); n != 4 || err != nil {
			t.Fatalf("%s: %d, %v", brief(a), n, err)
		}
		headA, err := chain.Head(a)
		if err != nil {
			t.Fatal(err)
		}
		for j, b := range all {
			headB, err := chain.Head(b)
			if err != nil {
				t.Fatal(err)
			}
			same := showAll(a) == showAll(b)
			if (headA == headB) != same || (chain.Common(a, b) == 4) != same || same != (i == j) {
				t.Errorf("%s\nand %s: %x, %x, %d", brief(a), brief(b), headA, headB, chain.Common(a, b))
			}
		}
	}
}
