package tree_test

import (
	"math"
	"math/rand"
	"slices"
	"testing"

	"docket/api"
	"docket/tree"
)

// add is Add where it may not refuse.
func add(t *testing.T, e tree.Edge, width int, leaf api.Digest) tree.Edge {
	t.Helper()
	next, why := e.Add(width, leaf)
	if why != api.OK {
		t.Fatalf("Add at size %d: %v", e.Size(), why)
	}
	return next
}

// tells holds an edge against a size and its digests.
func tells(t *testing.T, what string, e tree.Edge, size int, ds []api.Digest) {
	t.Helper()
	if e.Size() != size {
		t.Errorf("%s: size %d, must be %d", what, e.Size(), size)
	}
	is(t, what, e.Digests(), ds)
	for _, w := range []int{1, 32} {
		if e.Root(w) != tree.Fold(w, ds) {
			t.Errorf("%s: its root at width %d", what, w)
		}
	}
}

func TestP6_4TheZeroEdge(t *testing.T) {
	var e tree.Edge
	tells(t, "the zero Edge", e, 0, nil)
	for _, w := range someWidths() {
		if e.Root(w) != nothing(w) {
			t.Errorf("width %d: the root of nothing", w)
		}
	}
	tells(t, "one leaf", add(t, e, 1, leavesOf(1)[0]), 1, leavesOf(1))
}

func TestP6_4EdgesGrow(t *testing.T) {
	l := leavesOf(200)
	for _, w := range someWidths() {
		rows := []tree.Edge{{}}
		for _, d := range l {
			rows = append(rows, add(t, rows[len(rows)-1], w, d))
		}
		for n, e := range rows { // behind all of them: the old ones are as they were
			var ds []api.Digest
			for _, s := range tree.Spots(0, n) {
				ds = append(ds, mth(w, l[s.Index<<s.Level:(s.Index+1)<<s.Level]))
			}
			tells(t, named("the Edge of", n), e, n, ds)
			if e.Root(w) != mth(w, l[:n]) {
				t.Errorf("width %d: the root of %d leaves", w, n)
			}
		}
	}
}

func TestP6_4AnEdgeGrowsTwoWays(t *testing.T) {
	l := leavesOf(24)
	var e tree.Edge
	for i, d := range l {
		left, right := add(t, e, 32, l[3]), add(t, e, 32, l[4])
		if left.Root(32) != mth(32, append(slices.Clone(l[:i]), l[3])) || right.Root(32) != mth(32, append(slices.Clone(l[:i]), l[4])) {
			t.Errorf("two edges of one elder of size %d", i)
		}
		e = add(t, e, 32, d)
	}
}

func TestP6_4SummedAtTheWidthThatIsToldOutOfWhatIsHeld(t *testing.T) {
	r := rand.New(rand.NewSource(1))
	var e tree.Edge
	var ds []api.Digest // the model: the digests, and their levels
	var levels []int
	for n := range 300 {
		w, d, level := someWidths()[r.Intn(7)], drawn(r, 32), 0
		e = add(t, e, w, d)
		for len(levels) > 0 && levels[len(levels)-1] == level {
			d = node(w, ds[len(ds)-1], d)
			ds, levels, level = ds[:len(ds)-1], levels[:len(levels)-1], level+1
		}
		ds, levels = append(ds, d), append(levels, level)
		tells(t, "an Edge of many widths", e, n+1, ds)
	}
}

func TestP6_4Rebuild(t *testing.T) {
	r := rand.New(rand.NewSource(2))
	for _, n := range append(far(), 0, 4, 5, 6, 7, 8, 9) {
		ds, unchanged := spare(t, drawnList(r, len(tree.Spots(0, n)), 32))
		e, why := tree.Rebuild(n, ds)
		if why != api.OK {
			t.Fatalf("Rebuild(%d): %v", n, why)
		}
		unchanged("Rebuild")
		want := slices.Clone(ds)
		clear(ds[:cap(ds)])
		tells(t, named("Rebuild", n), e, n, want)
	}
}

func TestP6_4ARebuiltEdgeGrowsOn(t *testing.T) {
	l := leavesOf(70)
	var e tree.Edge
	for n, d := range l {
		again, why := tree.Rebuild(n, e.Digests())
		if why != api.OK {
			t.Fatalf("Rebuild(%d): %v", n, why)
		}
		e = add(t, again, 2, d)
		if e.Root(2) != mth(2, l[:n+1]) {
			t.Errorf("rebuilt at %d, and one more", n)
		}
	}
}

func TestP6_4RebuildRefuses(t *testing.T) {
	l := leavesOf(41)
	for _, x := range []struct {
		size, many int
		want       api.Errno
	}{
		{-1, 0, api.ErrSize}, {-1, 1, api.ErrSize}, {api.MaxLog + 1, 0, api.ErrSize}, {api.MaxLog + 1, 2, api.ErrSize}, {math.MinInt, 1, api.ErrSize}, {math.MaxInt, 40, api.ErrSize},
		{0, 1, api.ErrForm}, {1, 0, api.ErrForm}, {1, 2, api.ErrForm}, {3, 1, api.ErrForm}, {3, 3, api.ErrForm}, {7, 2, api.ErrForm}, {8, 0, api.ErrForm}, {8, 3, api.ErrForm},
		{api.MaxLog, 0, api.ErrForm}, {api.MaxLog, 2, api.ErrForm}, {api.MaxLog - 1, 39, api.ErrForm}, {api.MaxLog - 1, 41, api.ErrForm},
	} {
		e, why := tree.Rebuild(x.size, l[:x.many])
		if why != x.want {
			t.Errorf("Rebuild(%d) of %d digests: %v", x.size, x.many, why)
		}
		tells(t, "beside a refusal", e, 0, nil)
	}
}

func TestP6_4TheGreatestEdge(t *testing.T) {
	r := rand.New(rand.NewSource(3))
	ds := drawnList(r, 40, 32)
	e, why := tree.Rebuild(api.MaxLog-1, ds)
	if why != api.OK {
		t.Fatal(why)
	}
	leaf := drawn(r, 32)
	full := add(t, e, 3, leaf)
	want := tree.Fold(3, append(slices.Clone(ds), leaf)) // at each level both parts are there: it is the fold of all
	tells(t, "2^40 leaves", full, api.MaxLog, []api.Digest{want})
	over, why := full.Add(3, leaf)
	if why != api.ErrFull {
		t.Errorf("Add at 2^40: %v", why)
	}
	tells(t, "beside a refusal", over, 0, nil)
	tells(t, "behind a refusal", full, api.MaxLog, []api.Digest{want})
	tells(t, "the elder", e, api.MaxLog-1, ds)
}

func TestP6_4DigestsAreNewMemory(t *testing.T) {
	l := leavesOf(7)
	var e tree.Edge
	for _, d := range l {
		e = add(t, e, 32, d)
	}
	before := slices.Clone(e.Digests())
	ds := e.Digests()
	clear(ds[:cap(ds)])
	is(t, "Digests behind a change of its answer", e.Digests(), before)
}
