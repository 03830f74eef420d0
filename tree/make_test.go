package tree_test

import (
	"math"
	"slices"
	"testing"

	"docket/api"
	"docket/tree"
)

func TestP6_5InclusionIsTheAuditPath(t *testing.T) {
	for _, w := range someWidths() {
		for size := 1; size < 40; size++ {
			for i := range size {
				got, why := tree.Inclusion(w, size, i, within(t, size))
				if why != api.OK {
					t.Fatalf("Inclusion(%d, %d): %v", size, i, why)
				}
				is(t, named("Inclusion", w, size, i), got, whole{w, size, told}.path(i, 0, size))
			}
		}
	}
}

func TestP6_5InclusionOfGreatSizes(t *testing.T) {
	for _, size := range far() {
		for _, i := range []int{0, 1, size / 2, size/2 - 1, size / 3, size - 2, size - 1} {
			if i < 0 || i >= size {
				continue
			}
			got, why := tree.Inclusion(32, size, i, within(t, size))
			if why != api.OK || len(got) > 40 {
				t.Fatalf("Inclusion(%d, %d): %d digests, %v", size, i, len(got), why)
			}
			is(t, named("Inclusion", size, i), got, whole{32, size, told}.path(i, 0, size))
		}
	}
	if got, _ := tree.Inclusion(32, api.MaxLog, 1, told); len(got) != 40 {
		t.Errorf("at 2^40: %d digests", len(got))
	}
}

func TestP6_5WhatAtAnswersIsTakenAsItIs(t *testing.T) {
	for _, w := range someWidths() {
		got, _ := tree.Inclusion(w, 7, 0, told)
		right := node(w, told(tree.Spot{Level: 1, Index: 2}), told(tree.Spot{Level: 0, Index: 6}))
		is(t, named("at width", w), got, []api.Digest{told(tree.Spot{Level: 0, Index: 1}), told(tree.Spot{Level: 1, Index: 1}), right})
	}
}

func TestP6_5InclusionRefuses(t *testing.T) {
	for _, x := range [][2]int{
		{0, 0}, {0, -1}, {-1, 0}, {-1, -2}, {1, 1}, {1, -1}, {3, 3}, {3, 4}, {3, -1}, {api.MaxLog, api.MaxLog}, {api.MaxLog + 1, 0}, {api.MaxLog + 1, 5},
		{math.MaxInt, 0}, {math.MinInt, 0}, {math.MaxInt, math.MaxInt - 1}, {math.MinInt, math.MinInt}, {3, math.MinInt}, {3, math.MaxInt},
	} {
		if got, why := tree.Inclusion(32, x[0], x[1], told); why != api.ErrSize || got != nil {
			t.Errorf("Inclusion(%d, %d): %x, %v", x[0], x[1], got, why)
		}
		if got, why := tree.Inclusion(32, x[0], x[1], nil); why != api.ErrArg || got != nil {
			t.Errorf("Inclusion(%d, %d) without at: %x, %v", x[0], x[1], got, why)
		}
	}
	if got, why := tree.Inclusion(32, 1, 0, nil); why != api.ErrArg || got != nil {
		t.Errorf("Inclusion(1, 0) without at: %x, %v", got, why)
	}
	if got, why := tree.Inclusion(32, 3, 1, nil); why != api.ErrArg || got != nil {
		t.Errorf("Inclusion(3, 1) without at: %x, %v", got, why)
	}
}

func TestP6_6ConsistencyIsTheProofOfTheRFC(t *testing.T) {
	for _, w := range someWidths() {
		for size := range 40 {
			for old := range size + 1 {
				got, why := tree.Consistency(w, old, size, within(t, size))
				if why != api.OK {
					t.Fatalf("Consistency(%d, %d): %v", old, size, why)
				}
				is(t, named("Consistency", w, old, size), got, whole{w, size, told}.proof(old))
			}
		}
	}
}

func TestP6_6ConsistencyOfGreatSizes(t *testing.T) {
	for _, size := range far() {
		for _, old := range []int{1, 2, 3, size / 2, size/2 + 1, size / 3, size - 2, size - 1, size} {
			if old < 0 || old > size {
				continue
			}
			got, why := tree.Consistency(32, old, size, within(t, size))
			if why != api.OK || len(got) > 41 {
				t.Fatalf("Consistency(%d, %d): %d digests, %v", old, size, len(got), why)
			}
			is(t, named("Consistency", old, size), got, whole{32, size, told}.proof(old))
		}
	}
	if got, _ := tree.Consistency(32, api.MaxLog-1, api.MaxLog, told); len(got) != 41 {
		t.Errorf("at 2^40: %d digests", len(got))
	}
}

func TestP6_6NoDigests(t *testing.T) {
	for _, x := range [][2]int{{0, 0}, {0, 1}, {0, 7}, {0, api.MaxLog}, {1, 1}, {7, 7}, {api.MaxLog, api.MaxLog}} {
		if got, why := tree.Consistency(32, x[0], x[1], told); why != api.OK || len(got) != 0 {
			t.Errorf("Consistency(%d, %d): %x, %v", x[0], x[1], got, why)
		}
	}
}

func TestP6_6ConsistencyRefuses(t *testing.T) {
	for _, x := range [][2]int{
		{-1, 0}, {-1, 7}, {-1, -1}, {-2, -1}, {1, 0}, {8, 7}, {0, -1}, {0, api.MaxLog + 1}, {api.MaxLog + 1, api.MaxLog + 1}, {5, api.MaxLog + 1},
		{math.MinInt, 7}, {math.MinInt, math.MinInt}, {7, math.MinInt}, {0, math.MaxInt}, {math.MaxInt, math.MaxInt}, {math.MaxInt, 7},
	} {
		if got, why := tree.Consistency(32, x[0], x[1], told); why != api.ErrSize || got != nil {
			t.Errorf("Consistency(%d, %d): %x, %v", x[0], x[1], got, why)
		}
		if got, why := tree.Consistency(32, x[0], x[1], nil); why != api.ErrArg || got != nil {
			t.Errorf("Consistency(%d, %d) without at: %x, %v", x[0], x[1], got, why)
		}
	}
	for _, x := range [][2]int{{0, 0}, {0, 7}, {7, 7}, {3, 7}} {
		if got, why := tree.Consistency(32, x[0], x[1], nil); why != api.ErrArg || got != nil {
			t.Errorf("Consistency(%d, %d) without at: %x, %v", x[0], x[1], got, why)
		}
	}
}

func TestR2ProofsAreNewMemory(t *testing.T) {
	a, _ := tree.Inclusion(32, 7, 3, told)
	b, _ := tree.Consistency(32, 3, 7, told)
	wantA, wantB := slices.Clone(a), slices.Clone(b)
	clear(a[:cap(a)])
	is(t, "the other answer", b, wantB)
	clear(b[:cap(b)])
	a, _ = tree.Inclusion(32, 7, 3, told)
	b, _ = tree.Consistency(32, 3, 7, told)
	is(t, "Inclusion again", a, wantA)
	is(t, "Consistency again", b, wantB)
}
