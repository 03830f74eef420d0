package tree_test

import (
	"math"
	"math/bits"
	"runtime/debug"
	"slices"
	"testing"

	"docket/api"
	"docket/tree"
)

func TestP6_1RootIsMTH(t *testing.T) {
	l := leavesOf(300)
	for _, w := range someWidths() {
		for n := range 70 {
			if tree.Root(w, l[:n]) != mth(w, l[:n]) {
				t.Errorf("width %d: the root of %d leaves", w, n)
			}
		}
		for _, n := range []int{127, 128, 129, 255, 256, 257, 300} {
			if tree.Root(w, l[:n]) != mth(w, l[:n]) {
				t.Errorf("width %d: the root of %d leaves", w, n)
			}
		}
	}
	if tree.Root(32, nil) != tree.Root(32, []api.Digest{}) {
		t.Error("nil and an empty list have unlike roots")
	}
}

func TestP6_1LeavesGoInAsTheyAre(t *testing.T) {
	l := leavesOf(3)
	for _, w := range someWidths() {
		if tree.Root(w, l[:1]) != l[0] {
			t.Errorf("width %d: the leaf of one was changed", w)
		}
		if tree.Root(w, l[:2]) != node(w, l[0], l[1]) || tree.Root(w, l) != node(w, node(w, l[0], l[1]), l[2]) {
			t.Errorf("width %d: the leaves were cut ahead of being summed", w)
		}
	}
}

// spotsOf are spots one by one: each the greatest that may begin here and ends in time.
func spotsOf(from, to int) []tree.Spot {
	var row []tree.Spot
	for at := from; at < to; {
		best := 0
		for level := 0; level <= 40; level++ {
			if at%(1<<level) == 0 && at+1<<level <= to {
				best = level
			}
		}
		row = append(row, tree.Spot{Level: best, Index: at >> best})
		at += 1 << best
	}
	return row
}

// fewest tells with how few full subtrees the leaves from .. to can be had.
func fewest(from, to int) int {
	few := make([]int, to+1)
	for at := to - 1; at >= from; at-- {
		few[at] = math.MaxInt
		for level := 0; at%(1<<level) == 0 && at+1<<level <= to; level++ {
			few[at] = min(few[at], 1+few[at+1<<level])
		}
	}
	return few[from]
}

func TestP6_2Spots(t *testing.T) {
	for to := range 80 {
		for from := range to + 1 {
			got := tree.Spots(from, to)
			if !slices.Equal(got, spotsOf(from, to)) || len(got) != fewest(from, to) {
				t.Errorf("Spots(%d, %d): %v", from, to, got)
			}
		}
	}
}

func TestP6_2SpotsOfGreatSizes(t *testing.T) {
	for _, to := range far() {
		for _, from := range []int{0, 1, 2, 3, 1 << 19, 0x1234567890, to / 2, to/2 + 1, to - 2, to - 1, to} {
			if from < 0 || from > to {
				continue
			}
			if got := tree.Spots(from, to); !slices.Equal(got, spotsOf(from, to)) {
				t.Errorf("Spots(%d, %d): %v", from, to, got)
			}
		}
	}
	if got := tree.Spots(1, api.MaxLog); len(got) != 40 || got[0] != (tree.Spot{Level: 0, Index: 1}) || got[39] != (tree.Spot{Level: 39, Index: 1}) {
		t.Errorf("all but the first leaf: %v", got)
	}
}

func TestP6_2OneSpotForEachOne(t *testing.T) {
	for _, n := range append(far(), 0, 5, 6, 7, 8, 9) {
		row := tree.Spots(0, n)
		if len(row) != bits.OnesCount(uint(n)) {
			t.Errorf("Spots(0, %d): %v", n, row)
		}
		for i, s := range row {
			if n>>s.Level&1 != 1 || i > 0 && s.Level >= row[i-1].Level {
				t.Errorf("Spots(0, %d): %v", n, row)
			}
		}
	}
}

func TestP6_2NoSpots(t *testing.T) {
	for _, x := range [][2]int{
		{0, 0}, {9, 9}, {api.MaxLog, api.MaxLog}, {2, 1}, {-1, 0}, {-1, 3}, {-2, -1}, {0, -1}, {0, api.MaxLog + 1}, {api.MaxLog, api.MaxLog + 1},
		{math.MinInt, math.MaxInt}, {math.MinInt, 5}, {0, math.MaxInt}, {math.MaxInt, math.MinInt}, {math.MaxInt, math.MaxInt}, {5, math.MinInt},
	} {
		if got := tree.Spots(x[0], x[1]); len(got) != 0 {
			t.Errorf("Spots(%d, %d): %v", x[0], x[1], got)
		}
	}
}

func TestP6_2SpotsAreNewMemory(t *testing.T) {
	row := tree.Spots(0, 7)
	clear(row[:cap(row)])
	if got := tree.Spots(0, 7); !slices.Equal(got, spotsOf(0, 7)) {
		t.Errorf("an answer was kept: %v", got)
	}
}

func TestP6_3Fold(t *testing.T) {
	l := leavesOf(9)
	for _, w := range someWidths() {
		if tree.Fold(w, nil) != nothing(w) || tree.Fold(w, []api.Digest{}) != nothing(w) {
			t.Errorf("width %d: Fold of none", w)
		}
		want := l[8]
		for i := 8; ; i-- {
			if got := tree.Fold(w, l[i:]); got != want {
				t.Errorf("width %d: Fold of %d: %x", w, 9-i, got)
			}
			if i == 0 {
				break
			}
			want = node(w, l[i-1], want)
		}
	}
}

func TestP6_3RootIsTheFoldOfTheSpots(t *testing.T) {
	l := leavesOf(140)
	for _, w := range someWidths() {
		for n := range len(l) + 1 {
			var ds []api.Digest
			for _, s := range tree.Spots(0, n) {
				ds = append(ds, tree.Root(w, l[s.Index<<s.Level:(s.Index+1)<<s.Level]))
			}
			if tree.Fold(w, ds) != tree.Root(w, l[:n]) {
				t.Errorf("width %d: of %d leaves", w, n)
			}
		}
	}
}

func TestP6_3FoldOfALongList(t *testing.T) {
	defer debug.SetMaxStack(debug.SetMaxStack(16 << 20))
	ds := make([]api.Digest, 1<<18)
	want := ds[0]
	for range len(ds) - 1 {
		want = node(32, api.Digest{}, want)
	}
	if tree.Fold(32, ds) != want {
		t.Error("Fold of a long list")
	}
}

func TestR2RootAndFoldChangeNothing(t *testing.T) {
	for n := range 12 {
		l, unchanged := spare(t, leavesOf(n))
		tree.Root(1, l)
		unchanged("Root")
		tree.Fold(1, l)
		unchanged("Fold")
	}
}
