package tree_test

import (
	"slices"
	"testing"

	"docket/api"
	"docket/tree"
)

func n32(l, r api.Digest) api.Digest { return node(32, l, r) }

func TestRunsOfMaking(t *testing.T) {
	l := leavesOf(7)
	at := truly(32, l)
	right := n32(n32(l[4], l[5]), l[6])
	for _, x := range []struct {
		size, i int
		want    []api.Digest
	}{{7, 3, []api.Digest{l[2], n32(l[0], l[1]), right}}, {7, 6, []api.Digest{n32(l[4], l[5]), n32(n32(l[0], l[1]), n32(l[2], l[3]))}}} {
		got, why := tree.Inclusion(32, x.size, x.i, at)
		is(t, named("Inclusion", x.size, x.i), got, x.want)
		if why != api.OK {
			t.Error(why)
		}
	}
	got, _ := tree.Consistency(32, 3, 7, at)
	is(t, "Consistency of 3 and 7", got, []api.Digest{l[2], l[3], n32(l[0], l[1]), right})
	got, _ = tree.Consistency(32, 4, 7, at)
	is(t, "Consistency of 4 and 7", got, []api.Digest{right})
	if got := tree.Spots(3, 7); !slices.Equal(got, []tree.Spot{{Level: 0, Index: 3}, {Level: 1, Index: 2}, {Level: 0, Index: 6}}) {
		t.Errorf("Spots(3, 7): %v", got)
	}
}

func TestRunsOfChecking(t *testing.T) {
	l := leavesOf(7)
	right := n32(n32(l[4], l[5]), l[6])
	if root, why := tree.Include(32, 1, 0, l[0], nil); root != l[0] || why != api.OK {
		t.Errorf("Include(1, 0, L0, nil): %x, %v", root, why)
	}
	includeRefuses(t, 2, 0, nil, api.ErrProof)
	r, r4 := mth(32, l), mth(32, l[:4])
	agrees(t, 32, 0, 5, l[0], r, nil, api.ErrRoot)
	agrees(t, 32, 5, 5, r, r, l[:1], api.ErrProof)
	agrees(t, 32, 4, 7, r4, r, []api.Digest{right}, api.OK)
	agrees(t, 32, 4, 7, l[4], r, []api.Digest{right}, api.ErrRoot)

	n01, n23 := n32(l[0], l[1]), n32(l[2], l[3])
	before, after, texts, why := tree.Ahead(32, 3, 7, l[5], []api.Digest{l[2], l[3], n01, right})
	if before != n32(n01, l[2]) || after != r || why != api.OK {
		t.Errorf("Ahead(3, 7): %x, %x, %v", before, after, why)
	}
	sameTexts(t, "Ahead(3, 7)", texts, [][]byte{textOf(n01, l[2]), textOf(l[2], l[3]), textOf(n01, n23), textOf(n32(n01, n23), right)})
}

func TestTheEnds(t *testing.T) {
	if tree.Root(32, nil) != nothing(32) {
		t.Error("Root of none")
	}
	if ds, why := tree.Inclusion(32, 0, 0, told); ds != nil || why != api.ErrSize {
		t.Errorf("Inclusion of size 0: %x, %v", ds, why)
	}
	if ds, why := tree.Consistency(32, 0, 0, told); len(ds) != 0 || why != api.OK {
		t.Errorf("Consistency(0, 0): %x, %v", ds, why)
	}
	if got := tree.Spots(0, api.MaxLog); !slices.Equal(got, []tree.Spot{{Level: 40}}) {
		t.Errorf("one spot of level 40: %v", got)
	}
	for _, i := range []int{0, 1, api.MaxLog - 1} {
		if ds, why := tree.Inclusion(32, api.MaxLog, i, told); len(ds) != 40 || why != api.OK {
			t.Errorf("Inclusion of %d at 2^40: %d digests, %v", i, len(ds), why)
		}
	}
}

func TestExamples1To3(t *testing.T) {
	l := leavesOf(3)
	if tree.Root(32, l) != n32(n32(l[0], l[1]), l[2]) {
		t.Error("example 1")
	}
	if got := tree.Spots(0, 7); !slices.Equal(got, []tree.Spot{{Level: 2, Index: 0}, {Level: 1, Index: 2}, {Level: 0, Index: 6}}) {
		t.Errorf("example 2: %v", got)
	}
	if tree.Fold(32, l) != n32(l[0], n32(l[1], l[2])) {
		t.Error("example 3")
	}
}
